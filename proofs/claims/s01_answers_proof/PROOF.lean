import PyProof.Rows.All
import Wide.All
import OpenK.AllK
import Wide.FinOn
import Open.SpecLaws
import KE.OsHead
import KE.OsGo
import PySem.Challenge.RW_hintmaps_s01_answers
import PyVberaf
import PyProof.TupleKey
import PyProof.EqAt
import PyProof.EqKinds
import PyProof.TupleCall
import KE.BitLaws
import PyProof.ZipIter
import PyProof.Draws
import PyProof.EnumMake
import KE.KDictSum
import KE.KSortTupG
import VberafSpec
import PyProof.Rows.KernelRfl
set_option Elab.async false
set_option linter.all false
set_option maxRecDepth 100000
set_option bootstrap.genMatcherCode false
set_option compiler.extract_closed false
set_option compiler.reuse false
set_option tactic.hygienic false
open Vberaf renaming game→a9,St→ae,view→ay,greatest→bh,act→bu,factOf→bB,outcomes→bE,noticed→bH,Play→bM,tried→bN,levels→cc,exploreFrom→cC,beginnings→cI,inR→cJ,put→cP,hint→cV,products→cY,barred→cZ,kept→d7,start→dc,listed→di,Lead→dM,howMany→eY,outcome→eZ,does→f6,needsIn→fO,decode→gq,add→gN,answersFrom→gO,updated→gZ,Call→iP,strategy→jr,followed→js,metAll→jE,closed→jF,ranged→jJ,onPlay→jK,weakest→jY,levelNow→nE,alike→p9,Vals→rl,place→tD,onMap→tE,settled→uh,Told→vX,better→wa,out→yu,optNum→DM,far→DR,Sight→G7
open PySem renaming wpAny_bind→aa,Addr→ak,Value→aq,Shared→aA,wpAny_pure→aD,starEach→aU,sizeLine→bc,wpAny→bf,Program→bF,model→bI,Expr→ck,Around→cB,World→cD,Paired→cE,compEnvC→cH,mem_of_lookup→cN,Heap→cQ,Stmt→cR,eval→dh,wpAny_call_entry→dO,mainGlobals→eu,sysModules→eX,foldedSetIterable→fc,wpAny_newObj_type→ff,compareOp→fo,DictEntry→fq,wpAny_callSpecial?_slot→ft,wpAny_seqItems→fA,cellsFrom→fK,intKind→fQ,attributeBase→g6,Scope→gn,cLine→gv,backTo→gU,wpAny_holding→iw,wpAny_field→iI,FuncData→jx,NameKind→jy,IsPair→jV,sizeLine_eq→ko,wpAny_dictEntries→kq,wpAny_mono→kC,wpAny_typeNameOfWhole_keyiter→lB,wpAny_typeNameOfWhole_valiter→lC,wpAny_setField_rec→lQ,wpAny_passesOwn→m8,wpAny_loadPart'→m9,behindInMarks→ma,swapsWith→me,rawInt→mx,wpAny_truthy_bool→mM,bootBuiltins→oN,binaryOp→pL,wpAny_typeNameOf_keyiter→pM,wpAny_typeNameOf_valiter→pN,wpAny_specialOf→qa,wpAny_dictEpoch→qf,pyNext→qy,wpAny_Call_Name_kw→qz,wpAny_pyIter_tuple→qC,wpAny_setField→rM,firstArgMember→rN,wpAny_notOrdered_dict→tu,IsTupleKey→tH,wpAny_isInstance→tI,wpAny_attempt→uf,sliceBounds→uX,pushCells→xX,wpAny_rule→yh,assignEach→yi,IsZip→ym,holding→As,keywordEach→Au,wpAny_pyIter_list→Aw,valueAt→Ax,storedH→Ay,wpAny_pyIter_enum→Az,atKey_none_of_get→AA,wpAny_pyIter_zip→Ci,call_meetsIn→DK,wpAny_execs_nil→DO,letOwnedTupleGo→DP,pushCells_keeps→DQ,wpAny_isOneOf_valiter→Fh,Within→GL,atKey→GO,wpAny_fieldsOf→GP,wpAny_updateSeq_pair→GQ,PassesOwn→Hq,codeAny→Hs,Keyword→Ht,wpAny_standAt→JA,wpAny_onRaise→JC,assign→Ka,call→Kb,Params→Kd
open PySem.W renaming Frag→ab,findIn→bP,keepIn→eJ,emptyDict→gp,instObj→jj,fnOf→jq,WData→lE,codeIn→tJ,hasDictIn→uZ,mg_of→vY,plainGet→xp,nsIn→yn,callWith_K→DJ,WellAll→DN,methodObj→Fe,plainOver→Ff,ReadsW→GR
open List renaming length_map→ah,getElem?_eq_getElem→aj,getElem?_eq_some_iff→ax,mem_map→aF,getD_eq_getElem?_getD→aI,mem_of_getElem?→aJ,length_append→aK,mem_cons→aL,map_cons→aQ,getElem?_map→aR,mem_append→aX,length_cons→aZ,mem_append_left→b9,mem_cons_of_mem→ba,mem_singleton→bb,map_map→bq,size_toArray→br,mem_cons_self→bG,range→bL,map_congr_left→bO,map_append→bU,nodup_cons→bX,all_eq_true→cb,drop_eq_getElem_cons→cf,getElem?_eq_none→cv,any_eq_true→cx,mem_append_right→cG,take_length→cO,mem_range→cT,lookup_cons→cX,length_set→d4,foldl_cons→d5,find?_cons_of_neg→d6,getElem?_set_ne→dk,mem_filter→du,append_assoc→dw,mem_filterMap→dz,filterMap_cons→dD,mem_zipIdx_iff_getElem?→dJ,append_nil→e9,nodup_append→eE,find?_cons_of_pos→eI,find?_cons→eL,length_take→eM,all_cons→eO,pairwise_cons→fh,any_cons→fm,getElem_mem→fu,drop_length→fw,flatMap_append→fG,length_filter_le→fS,zipIdx_cons→g9,foldl_append→gD,getElem?_append_left→gL,mem_flatMap→gS,length_zip→iF,getElem_zip→iT,filter_cons→iU,findIdx_lt_length_of_exists→jG,getElem?_of_mem→jI,eq_nil_of_length_eq_zero→kR,getElem?_set_self→kX,all_map→kY,find?_eq_none→kZ,flatMap_cons→lR,lookup→mf,length_drop→mN,nil_append→oP,filterMap_map→oR,ext_getElem?→qb,replicate→qc,take_of_length_le→qd,range_succ_eq_map→qe,length_range→qg,mem_of_mem_take→rT,findIdx_getElem→rV,getElem?_concat_length→ui,getElem?_append_right→u_,forIn_nil→v5,nodup_nil→v7,set_cons_succ→v9,pairwise_iff_getElem→vZ,mem_of_find?_eq_some→v_,length→xq,length_erase_of_mem→ya,sum_cons→yb,getElem?_cons_zero→yp,getElem?_cons_succ→yq,not_mem_nil→yr,map_nil→Av,drop_eq_nil_of_le→AB,length_pos_of_mem→AC,pairwise_lt_range→AD,forIn_cons→AV,range_succ→AX,take_append_drop→Bt,contains_iff_mem→Bv,map_id→Cn,mem_erase_of_ne→Co,pairwise_append→Cp,length_flatMap→DS,filter_eq_self→DT,getElem?_drop→G5,map_inj_right→G6,set_cons_zero→G8,any_eq_false→Hr,take_succ_eq_append_getElem→Hu,map_set→Hv
open Vberab renaming levelOf→au,done→cj,Effect→cp,less→cF,look1→c_,size→dj,Doing→dU,effectsOf→e8,exploreFrom→e_,threes→fN,Need→g8,cut→ig,inR→iV,met→jD,levels→jH,effectedAll→kH,once→lV,Graph→mh,edges→mi,effected→nD,Levels→qZ,hint→rn,insert→w8,needsOf→Bu,sorted→DL,isEnd→G9
open Option.some renaming inj→az,injEq→iY
open Bool renaming false_ne_true→aB,and_eq_true→a_,false_eq_true→bR,eq_iff_iff→bW,noConfusion→dH,or_eq_true→l6,not_not→ug,eq_false_iff→xw,not_true→xW,true_and→y9,false_or→Fg
open PySem.Heap renaming get?_push_of_some→aE,lt_size→b7,get?_push_size→b8,size_push→cU,SameBut→jB,get?_update_self→lA
open Ne renaming symm→aG
open Nat renaming le_refl→aN,lt_of_lt_of_le→bV,ne_of_lt→b_,le_trans→c6,zero_le→gj,lt_irrefl→gC,ne_of_gt→m_,zero_add→n9,lt_succ_self→rL,le_of_succ_le→xY,lt_succ_of_lt→xZ,le_of_eq→AU,lt_trans→AW,lt_or_ge→AY,min_eq_left→Bs,mul_le_mul_left→Fi,add_assoc→G4,le_of_lt→Jv
open PySem.Value renaming ref→bp,none→eG,type→iu,bool→qY,int→ue
open Int renaming toNat_natCast→bA,toNat→kE
open Function renaming comp→df,id_comp→w6
open PySem.SeqAt renaming EqAt→dg
open PySem.Builtin.SmallTypes renaming nextOf→dS,ownedTupleIsFree→gR,ownedTupleHandOut→v8
open Option renaming map_some→dZ,isSome_iff_exists→fM,map_eq_some_iff→gu,isSome_map→jv,bind_some→jX,getD_some→qD,map_eq_none_iff→yt,map_none→A2,bind_none→Hw
open PySem.Heap.SameBut renaming update→fg
open PyProof.Rows renaming callWith_type1→fR,envOfC→yj,subscriptTail→JB
open False renaming elim→fY
open PySem.F renaming slot_dict_keyiterator_next→g7,slot_dict_valueiterator_next→h_,slot_dict_get→iS,slot_tuple_iterator_next→n8,entry_dict_get→oX,slot_list_getattribute→qB,args_tuple_add_2→vW,entry_tuple_add→xr,plainAttrs_dict→xt,plainAttrs_list→xu,slot_tuple_add→yk,slot_tuple_hash→yo,slot_zip_next→Cm,args_dict_valueiterator_next_1→Kc,entry_dict_valueiterator_next→LM
open PySem.Builtin.Tuple renaming tupleHashOf→gk
open PySem.Builtin.Dict_items renaming ownsTuple→gG
open Sum renaming inl→iE,inr→l4
open PySem.Builtin.Range renaming rangeSize→jo
open PySem.NameKind renaming free→ju,cell→qA
open PySem.Paired renaming length→jC
open PySem.Obj renaming data_mapFields→l5,mapFields→yl,isFreed_of_fields→Cg,mapSeq→GN,cls_mapFields→Jw
open Array renaming getElem?_toList→lz,length_toList→mZ,getElem?_eq_none→A1,forIn_toList→Fd,toList_map→Jx
open PySem.Builtin.List renaming listTooLong→lU
open PySem.Str renaming ofString→n6
open PySem.Builtin.Dict renaming showsAll→oO
open PyVberaf renaming shape→oS,answers→w9,answers_asked→yc
open VberafNeutral renaming step→q_
open True renaming intro→rk
open PySem.W.Codec renaming encAll→tK,denoteAll→AE,app→Jy
open PySem.Calls renaming spliced_cons→uW,callWith_builtin→A0,evalArgs_plain→Cf,spliced_nil→GM
open ForInStep renaming yield→x_
open PySem.W.WData renaming weightAll→AF
open List.Pairwise renaming imp→AZ
open PySem.SeqAt.EqAt renaming int_int→Br
open PyFlat renaming calls→Ga
open Option renaming some→Z_,none→ZZ
open Bool renaming true→ZY,false→ZX
def Z'(s:Lean.Syntax)(t:String):Lean.MacroM Lean.Syntax:=return (t.splitOn "(").foldr (λu y=>match (u.splitOn " ").map λx=>if x.isNat then s[x.toNat!] else Lean.mkIdent x.toName with|a::b=>Lean.Syntax.mkApp ⟨a⟩ ((b++if y.isMissing then [] else [y]).map (⟨·⟩)).toArray|_=>y) .missing
def Z''(t:String)(x:Lean.MacroM Lean.Syntax):Lean.MacroM Lean.Syntax:=do Z' (Lean.mkNullNode #[<-x]) t
def z'u(b:Bool)(x:Lean.MacroM Lean.Syntax):Lean.MacroM Lean.Syntax:=if b then x else throw .unsupportedSyntax
def z'c(s:Lean.Syntax)(f x y:String):Lean.MacroM Lean.Syntax:=do
 let i:=λn:String=>Lean.mkIdent n.toName
 Z' (s.setArg 1 (<-Z'' "jM 0" `(λ$(i "i") $(i "j")=>decide ($(i f) $(i x) $(i y))))) "gz(bj 1 0 2"
local macro_rules(kind:=«term_<|_»)|s=>z'u s[0].isNatLit?.isSome (Z' s s!"autoParam 2 z'{s[0].isNatLit?.get!}._auto_1")
def z'1(h:0=0:=by rfl):=h
def z'2(h:0=0:=by decide):=h
def z'3(h:0=0:=by intro _;rfl):=h
def z'4(h:0=0:=by decide +kernel):=h
def z'5(h:0=0:=by first|exact .inl rfl|exact .inr rfl|assumption):=h
def z'6(h:0=0:=by exact λ_ _=>rfl):=h
def z'7(h:0=0:=by intro ds m Q h;induction h;exact congrArg List.length ‹ds=_›):=h
def z'8(h:0=0:=by intro _ _ _ _ _ _;first|exact all1 λ_=>rfl|exact all2 λ_ _=>rfl|exact all3 λ_ _ _=>rfl|exact all4 λ_ _ _ _=>rfl):=h
def z'9(h:0=0:=by first|exact N9 _ (by decide) (by decide)|rfl):=h
def z'10(h:0=0:=by exact PassesOwn.never):=h
local macro_rules
 |`(tactic|obtain $m:rcasesPatMed:=$e:term)=>do
  let t:=m.raw[0]
  let q:=t[0][1].getSepArgs
  if q.size<3||t.getNumArgs>1 then throw .unsupportedSyntax
  let mut b:=#[]
  let mut s<-`(tactic|skip)
  let c<-if e.raw.isIdent then `(tactic|try clear $e) else pure s
  for r in q do
   let u:=r[0][0]
   let v:=u[0][0]
   let z:=Lean.mkIdent s!"z'{b.size}".toName
   if u.getNumArgs>1||r[1].getNumArgs>0 then throw .unsupportedSyntax
   if v.isToken "_" then b:=b.push ⟨<-`(z)⟩
   else if v.isIdent&&v.getId != `rfl then b:=b.push ⟨v⟩
   else
    b:=b.push z
    let d<-if v.isIdent then `(tactic|subst $z) else if v.isToken "-" then `(tactic|clear $z) else `(tactic|obtain $(⟨r[0]⟩):rcasesPatMed := $z)
    s<-`(tactic|($s:tactic;$d:tactic))
  let mut w<-`(tactic|rcases $e:term with $m:rcasesPatMed)
  for i in [0:q.size] do
   w<-`(tactic|first |(refine $(Lean.mkIdent s!"Z{i}{q.size-i}".toName) $e ?_;$c:tactic;intro $b*;$s:tactic)|$w:tactic)
  return w
 |`(tactic|rintro $[$q]*)=>do
  for i in [0:q.size] do
   let t:=q[i]!.raw[0]
   if t[1].getSepArgs.size>2 then
    let s<-`(tactic|(intro z;obtain $(⟨.node .none `Lean.Parser.Tactic.rcasesPatMed #[Lean.mkNullNode #[t]]⟩):rcasesPatMed := z))
    let s<-if i=0 then pure s else `(tactic|(rintro $[$(q[:i])]*;$s))
    return<-if i+1=q.size then pure s else `(tactic|($s;rintro $[$(q[i+1:])]*))
  throw .unsupportedSyntax
local macro_rules
 |`($m:declModifiers def $i:declId $s:optDeclSig $v:declVal)=>do
  let f (x:String):=m.raw.find? (·.isToken x)|>.isSome
  if f "noncomputable"||m.raw[1].getNumArgs>0 then throw .unsupportedSyntax
  let t<-if v.raw[1].isOfKind `Lean.Parser.Term.byTactic then `(theorem $i:declId $(⟨.node .none `Lean.Parser.Command.declSig #[s.raw[0],s.raw[1][0]]⟩):declSig $v:declVal) else `(noncomputable def $i:declId $s:optDeclSig $v:declVal)
  if f "nonrec" then `(set_option tactic.hygienic true in $t:command) else return t
section
variable{A:Sort _}{B:Sort _}{C:Sort _}{G:Prop}
def Z12{p q:A->Prop}(h:∃a,p a/\q a)(k:∀a,p a->q a->G):G:=h.elim λa h=>k a h.1 h.2
def Z13{p q r:A->Prop}(h:∃a,p a/\q a/\r a)(k:∀a,p a->q a->r a->G):G:=h.elim λa h=>k a h.1 h.2.1 h.2.2
def Z23{p q r:A->B->Prop}(h:∃a b,p a b/\q a b/\r a b)(k:∀a b,p a b->q a b->r a b->G):G:=h.elim λa h=>h.elim λb h=>k a b h.1 h.2.1 h.2.2
def Z03{p q r:Prop}(h:p/\q/\r)(k:p->q->r->G):G:=k h.1 h.2.1 h.2.2
def Z04{p q r s:Prop}(h:p/\q/\r/\s)(k:p->q->r->s->G):G:=k h.1 h.2.1 h.2.2.1 h.2.2.2
def Z22{p q:A->B->Prop}(h:∃a b,p a b/\q a b)(k:∀a b,p a b->q a b->G):G:=h.elim λa h=>h.elim λb h=>k a b h.1 h.2
def Z34{p q r s:A->B->C->Prop}(h:∃a b c,p a b c/\q a b c/\r a b c/\s a b c)(k:∀a b c,p a b c->q a b c->r a b c->s a b c->G):G:=h.elim λa h=>h.elim λb h=>h.elim λc h=>k a b c h.1 h.2.1 h.2.2.1 h.2.2.2
def Z24{p q r s:A->B->Prop}(h:∃a b,p a b/\q a b/\r a b/\s a b)(k:∀a b,p a b->q a b->r a b->s a b->G):G:=h.elim λa h=>h.elim λb h=>k a b h.1 h.2.1 h.2.2.1 h.2.2.2
def Z06{p q r s t u:Prop}(h:p/\q/\r/\s/\t/\u)(k:p->q->r->s->t->u->G):G:=k h.1 h.2.1 h.2.2.1 h.2.2.2.1 h.2.2.2.2.1 h.2.2.2.2.2
def Z33{p q r:A->B->C->Prop}(h:∃a b c,p a b c/\q a b c/\r a b c)(k:∀a b c,p a b c->q a b c->r a b c->G):G:=h.elim λa h=>h.elim λb h=>h.elim λc h=>k a b c h.1 h.2.1 h.2.2
def Z14{p q r s:A->Prop}(h:∃a,p a/\q a/\r a/\s a)(k:∀a,p a->q a->r a->s a->G):G:=h.elim λa h=>k a h.1 h.2.1 h.2.2.1 h.2.2.2
def Z35{p q r s t:A->B->C->Prop}(h:∃a b c,p a b c/\q a b c/\r a b c/\s a b c/\t a b c)(k:∀a b c,p a b c->q a b c->r a b c->s a b c->t a b c->G):G:=h.elim λa h=>h.elim λb h=>h.elim λc h=>k a b c h.1 h.2.1 h.2.2.1 h.2.2.2.1 h.2.2.2.2
def Z21{p:A->B->Prop}(h:∃a b,p a b)(k:∀a b,p a b->G):G:=h.elim λa h=>h.elim λb h=>k a b h
def Z32{p q:A->B->C->Prop}(h:∃a b c,p a b c/\q a b c)(k:∀a b c,p a b c->q a b c->G):G:=h.elim λa h=>h.elim λb h=>h.elim λc h=>k a b c h.1 h.2
def Z05{p q r s t:Prop}(h:p/\q/\r/\s/\t)(k:p->q->r->s->t->G):G:=k h.1 h.2.1 h.2.2.1 h.2.2.2.1 h.2.2.2.2
def Z26{p q r s t u:A->B->Prop}(h:∃a b,p a b/\q a b/\r a b/\s a b/\t a b/\u a b)(k:∀a b,p a b->q a b->r a b->s a b->t a b->u a b->G):G:=h.elim λa h=>h.elim λb h=>k a b h.1 h.2.1 h.2.2.1 h.2.2.2.1 h.2.2.2.2.1 h.2.2.2.2.2
end
abbrev i0p:=@if_pos
abbrev i0n:=@if_neg
namespace L2
open PySem PySem.Spec PyProof.Rows
abbrev K1:=Sum Int (List Int)
abbrev K2:=List K1
section
variable (P:bF) (w:cD)
def xA(h:cQ):K1->aq->Prop
 |.inl k,v=>∃t,v=.int k t
 |.inr a,v=>∃b,v=.ref b/\tH (fQ P w) h a b
def mO(h:cQ)(b:K2)(a:ak):Prop:=∃o items n,h.get? a=Z_ o/\o.cls=.type "tuple"/\o.data=.seq items n/\cE (xA P w h) b items.toList
def h1:K1->Int
 |.inl k=>hashInt k
 |.inr a=>tupleKeyHash (fQ P w) a
def d1:K1->Nat
 |.inl _=>1
 |.inr a=>a.length+1
def T4(a:K2):Int:=reduceHash (gk (a.map (h1 P w)))
def OQ(a:K2):Nat:=(a.map d1).sum+1
end
section
variable {P:bF} {w:cD}
def xA.inj{h}:∀{x y:K1} {v:aq},xA P w h x v->xA P w h y v->x=y
 |.inl i,.inl j,v,⟨t,e⟩,⟨u,a⟩=>by subst e;injection a with b _;rw[b]
 |.inl i,.inr j,v,⟨t,e⟩,⟨u,a,_⟩=>by subst e;cases a
 |.inr i,.inl j,v,⟨t,e,_⟩,⟨u,a⟩=>by subst e;cases a
 |.inr i,.inr j,v,⟨t,e,k⟩,⟨u,a,c⟩=>by subst e;cases a;rw[k.inj c]
def Items2.inj{h}:∀{x y:K2} {vs:List aq},cE (xA P w h) x vs->cE (xA P w h) y vs->x=y:=by
 intro x y vs a;induction a generalizing y with
 |nil=>intro b;cases b;rfl
 |cons r _ c=>intro b;cases b with|cons s t=>rw[r.inj s,c t]
def mO.inj{h a x y}(e:mO P w h x a)(f:mO P w h y a):x=y:=by
 obtain⟨o,items,n,g,_,i,j⟩:=e;obtain⟨k,items',n',c,_,b,d⟩:=f;obtain rfl:o=k:=az (g.symm.trans c);rw[i]at b;injection b with h1 _
 subst h1;exact Items2.inj j d
def Paired.a4W{α β:Type}{F G}:∀{l₁:List α} {l₂:List β},cE F l₁ l₂->(∀a b,F a b->G a b)->cE G l₁ l₂:=by
 intro l₁ l₂ h f;induction h with
 |nil=>exact .nil
 |cons r _ c=>exact .cons (f _ _ r) c
def mO.keeps{h h':cQ}{g a d}{o:Obj}{p r}(x:mO P w h g a)(j:h.get? d=Z_ o)(l:o.data=.dict p r)(hs:jB d h h'):mO P w h' g a:=by
 obtain⟨m,items,n,f,t,c,u⟩:=x;have i:a≠d:=by rintro rfl;obtain rfl:m=o:=az (f.symm.trans j);rw[l]at c;exact nomatch c
 refine⟨m,items,n,(hs.2 a i).trans f,t,c,Paired.a4W u λk v q=>?_⟩;cases k with
 |inl k=>exact q
 |inr g=>obtain⟨b,e,y⟩:=q;exact⟨b,e,y.keeps j l hs⟩
def mO.typeIs{s:aA}{b a}(x:mO P w s.heap b a):s.TypeIs (.ref a) "tuple":=let ⟨o,_,_,c,d,_⟩:=x;⟨o,c,d⟩
def mO.a3g{h:cQ}{b a}(x:mO P w h b a):∃items:Array aq,h.IsTuple a items/\cE (xA P w h) b items.toList:=by obtain⟨o,items,n,c,d,e,f⟩:=x;exact⟨items,⟨o,c,d,n,e⟩,f⟩
def IsTupleKey.a3g{h:cQ}{b a}(x:tH (fQ P w) h b a):∃items:Array aq,h.IsTuple a items/\ItemsAre (fQ P w) b items.toList:=by obtain⟨o,items,n,c,d,e,f⟩:=x;exact⟨items,⟨o,c,d,n,e⟩,f⟩
variable {A:cB} {E:aq->aA->Prop} {s:aA}
def Vt{d a Q}(hu:A.units+4<gv)(r:mO P w s.heap d a)(h:Q (T4 P w d) {s with toks:=s.toks+OQ d}):
  bf (bI P w) A (pyHash (.ref a)) Q E s:=by
 have g:=r.typeIs;obtain⟨o,items,n,B,_,C,D⟩:=r;unfold pyHash;first|unfold pyHashByItsType|skip
 first|refine aa (wpAny_cRoomFor_or (.inr (by lia)) ?_)|skip
 refine aa (qa g F.slot_tuple_hash.lookup ?_);show bf _ _ (if (Z_ (Value.builtin "tuple.__hash__")==Z_ eG)=ZY then _ else _) Q E s;rw[i0n (by rw[beq_builtin_none];exact aB)];refine aa (qa g F.slot_tuple_hash.lookup ?_);show bf _ _ (callSpecialIfBoundUnlessNone? (.ref a) "__hash__" _ >>= _) Q E s;refine aa (wpAny_callSpecialIfBoundUnlessNone?_slot g yo (dO yo g F.entry_tuple_hash ?_ (F.args_tuple_hash_1 _)));show bf _ _ (Builtin.Tuple.tupleItemsOf (.ref a) >>= _) _ _ s;refine aa (wpAny_tupleItemsOf B C ?_);refine aa ?_;rw[<-Fd];refine wpAny_forIn_list _
  (λrest (b:Array Int) m=>∃done left,d=done++left/\cE (xA P w s.heap) left rest/\b.toList=done.map (h1 P w)/\m={s with toks:=s.toks+(done.map d1).sum})
  _ ?_ ?_ _ _ ⟨[],d,rfl,D,rfl,rfl⟩
 .rintro x rest b m ⟨done,left,rfl,p,i,rfl⟩;cases p with
  |@cons k _ e _ u f=>
   have q:bf (bI P w) A.in1 (pyHash x) (λv y=>v=h1 P w k/\y={s with toks:=s.toks+((done++[k]).map d1).sum}) E {s with toks:=s.toks+(done.map d1).sum}:=by
    cases k with
    |inl k=>obtain⟨t,rfl⟩:=u;refine wpAny_pyHash_int ⟨rfl,?_⟩;simp[d1,G4]
    |inr l=>obtain⟨c,rfl,G⟩:=u;refine wpAny_pyHash_tuple (knd:=fQ P w) (by show A.units+1<gv;lia) G ⟨rfl,?_⟩;simp[d1,G4]
   refine aa (kC q (λv y z=>?_) λ_ _ z=>z);obtain⟨rfl,rfl⟩:=z;first
    |exact aD ⟨done++[k],e,by simp,f,by simp[i],rfl⟩
    |exact aa (aD (aD ⟨done++[k],e,by simp,f,by simp[i],rfl⟩))
 .rintro b m ⟨done,left,rfl,p,i,rfl⟩;cases p;rw[e9]at h;show bf _ _ (retInt (gk b.toList)) _ _ _;rw[i];refine wpAny_ret_mkInt ?_;show bf _ _ (if (decide (-(2:Int) ^ 63<=gk (done.map (h1 P w)))&&decide (gk (done.map (h1 P w))<2 ^ 63))=ZY then _ else _) Q E _;unfold T4 reduceHash OQ at h;by_cases j:(decide (-(2:Int) ^ 63<=gk (done.map (h1 P w)))&&decide (gk (done.map (h1 P w))<2 ^ 63))=ZY
  .rw[i0p j];rw[i0p j]at h;exact aD (by simpa[G4] using h)
  .rw[i0n j];rw[i0n j]at h;exact aa (yh (aD (by simpa[G4] using h)))
def yw{P a w b}:∀{l:List Int} {vs:List aq},ItemsAre (fQ P w) l vs->ItemsAre (fQ a b) l vs
 |_,_,.nil=>.nil
 |_,_,.cons q r=>.cons q (yw r)
def Rn{x y u v}(hu:A.units+2<gv)(D:xA P w s.heap x u)(a:xA P w s.heap y v):dg A s u v (decide (x=y)):=by
 cases x with
 |inl i=>
  obtain⟨t,rfl⟩:=D;cases y with
  |inl j=>
   obtain⟨d,rfl⟩:=a;have e:decide ((iE i:K1)=iE j)=(i==j):=by rw[bW];simp
   rw[e];exact Br i t j d
  |inr l=>
   obtain⟨b,rfl,k⟩:=a;obtain⟨items,f,_⟩:=IsTupleKey.a3g k;have e:decide ((iE i:K1)=l4 l)=ZX:=by simp
   rw[e];exact SeqAt.EqAt.int_tuple i t f (by lia)
 |inr l=>
  obtain⟨b,rfl,k⟩:=D;cases y with
  |inl j=>
   obtain⟨d,rfl⟩:=a;obtain⟨items,f,_⟩:=IsTupleKey.a3g k;have e:decide ((l4 l:K1)=iE j)=ZX:=by simp
   rw[e];exact SeqAt.EqAt.tuple_int j d f (by lia)
  |inr m=>
   obtain⟨c,rfl,F⟩:=a;have e:decide ((l4 l:K1)=l4 m)=decide (l=m):=by rw[bW];simp
   rw[e];intro prog g E Q h;have G:tH (fQ prog g) s.heap l b:=by obtain⟨o,q,n,r,z,B,C⟩:=k;exact⟨o,q,n,r,z,B,yw C⟩
   have H:tH (fQ prog g) s.heap m c:=by obtain⟨o,q,n,r,z,B,C⟩:=F;exact⟨o,q,n,r,z,B,yw C⟩
   exact wpAny_eqBool_tuple (knd:=fQ prog g) (by lia) G H h
def DU{α β:Type}{F}:∀{l:List α} {m:List β},cE F l m->∀(j:Nat) (h1:j<l.length) (a:j<m.length),F l[j] m[j]:=by
 intro l m h;induction h with
 |nil=>intro j h1;exact absurd h1 (Nat.not_lt_zero _)
 |cons q r b=>intro j h1 a;cases j with
  |zero=>exact q
  |succ j=>exact b j (Nat.lt_of_succ_lt_succ h1) (Nat.lt_of_succ_lt_succ a)
def pb{α β:Type}{F}:∀{l:List α} {m:List β},cE F l m->l.length=m.length
 |_,_,.nil=>rfl
 |_,_,.cons q r=>by rw[aZ,aZ,pb r]
def LN(x y:K2):((bL (min x.length y.length)).all (λj=>decide (x[j]?=y[j]?))&&x.length==y.length)=decide (x=y):=by
 rw[bW];simp only[a_,cb,cT,decide_eq_true_eq,beq_iff_eq];constructor
 .rintro⟨h1,h2⟩;refine qb λj=>?_;by_cases hj:j<x.length
  .exact h1 j (by lia)
  .rw[cv (by lia),cv (by lia)]
 .rintro rfl;exact⟨λ_ _=>rfl,rfl⟩
def Vu{x y a b Q}(hu:A.units+4<gv)(d:mO P w s.heap x a)(f:mO P w s.heap y b)(h:Q (decide (x=y)) s):
  bf (bI P w) A (eqBool (.ref a) (.ref b)) Q E s:=by
 by_cases c:a=b
 .subst c;obtain rfl:=d.inj f;exact SeqAt.EqAt.same (.ref a) P w E Q (by simpa using h)
 .obtain⟨k,l,g⟩:=d.a3g;obtain⟨m,n,i⟩:=f.a3g;have lx:=pb g;have ly:=pb i;simp only[mZ]at lx ly;have e:=SeqAt.RcAt.tuples (A:=A) (s:=s) (e:=λj=>decide (x[j]?=y[j]?)) l n (by lia) (λj o p=>by
   have q:=DU g j (by lia) (by simpa using o);have r:=DU i j (by lia) (by simpa using p);have z:=Rn (A:=A.in1) (s:=s) (by show A.units+1+2<gv;lia) q r;have t:decide (x[j]?=y[j]?)=decide (x[j]=y[j]):=by rw[aj (by lia),aj (by lia)];rw[bW];simp
   show dg A.in1 s k[j] m[j] (decide (x[j]?=y[j]?));rw[t];simpa using z)
  rw[<-lx,<-ly,LN]at e;exact (SeqAt.EqAt.of_refs c e) P w E Q h
def Xd{C a Q}(D:mO P w s.heap C a)(h:Q ZY s):bf (bI P w) A (eqIsQuiet 8 (.ref a)) Q E s:=by
 have i:=D.typeIs;obtain⟨o,items,n,j,_,m,p⟩:=D;unfold eqIsQuiet;refine aa (qa i F.slot_tuple_eq.lookup ?_);show bf _ _ (isInstance (.ref a) (.type "tuple") >>= _) _ _ s;refine aa (tI i isSubtype_tuple_tuple ?_);simp only[xW,bR,if_false];refine aa (fA j m ?_);refine aa ?_;show bf _ _ (forIn items _ _) _ _ s;rw[<-Fd];refine wpAny_forIn_list _ (λrest r e=>r.1=ZZ/\e=s/\∃left,cE (xA P w s.heap) left rest) _ ?_ ?_ _ _ ⟨rfl,rfl,C,p⟩
 .rintro v rest r e ⟨f,rfl,left,d⟩;cases d with
  |@cons k _ q _ G x=>
   have y:bf (bI P w) A (eqIsQuiet 7 v) (λb g=>b=ZY/\g=e) E e:=by
    cases k with
    |inl k=>obtain⟨t,rfl⟩:=G;rw[eqIsQuiet_byValue _ rfl];exact aD ⟨rfl,rfl⟩
    |inr l=>
     obtain⟨c,rfl,H⟩:=G;have i:=H.typeIs;obtain⟨o,items,n,j,_,m,p⟩:=H;unfold eqIsQuiet;refine aa (qa i F.slot_tuple_eq.lookup ?_);show bf _ _ (isInstance (.ref c) (.type "tuple") >>= _) _ _ e;refine aa (tI i isSubtype_tuple_tuple ?_);simp only[xW,bR,if_false];refine aa (fA j m ?_);refine aa ?_;show bf _ _ (forIn items _ _) _ _ e;rw[<-Fd];refine wpAny_forIn_list _ (λrest r g=>r.1=ZZ/\g=e/\∀v∈rest,carriedByValue v=ZY) _ ?_ ?_ _ _ ⟨rfl,rfl,p.byValue⟩
     .rintro v rest r g ⟨f,rfl,d⟩;rw[eqIsQuiet_byValue _ (d v bG)];refine aa (aD ?_);simp only[xW,bR,if_false];exact aD ⟨rfl,rfl,λu B=>d u (ba _ B)⟩
     .rintro⟨I,J⟩ g ⟨f,rfl,_⟩;simp only at f;subst f;exact aD ⟨rfl,rfl⟩
   refine aa (kC y (λb g z=>?_) λ_ _ z=>z);obtain⟨rfl,rfl⟩:=z;simp only[xW,bR,if_false];exact aD ⟨rfl,rfl,q,x⟩
 .rintro⟨I,J⟩ e ⟨f,rfl,_⟩;simp only at f;subst f;exact aD h
end
def fi(prog:bF)(w:cD):HeapKind prog w K2 where
 is:=mO prog w
 hash:=T4 prog w
 draws:=OQ
 room:=λA=>A.units+4<gv
 inj:=λa b=>a.inj b
 keeps:=λx e f g=>x.keeps e f g
 pyHash:=λc d h=>Vt c d h
 eqBool:=λc a b h=>Vu c a b h
 quiet:=λd h=>Xd d h
def iy{prog w}{A:cB}(hu:A.units+64<gv):(fi prog w).room A.in1:=by show A.units+1+4<gv;lia
end L2
namespace L2
open PySem PySem.Spec PyProof.Rows

abbrev LO:=Sum Int Str
def Ke:LO->aq->Bool
 |.inl k,v=>Value.isInt k v
 |.inr x,v=>Value.isStrOf x v
def a0E(w:cD):LO->Int
 |.inl k=>hashInt k
 |.inr x=>hashStr w x
def ja:∀{k:LO} {v:aq},Ke k v=ZY->(∃i t,k=iE i/\v=ue i t)\/(∃x t,k=l4 x/\v=Value.str x t)
 |.inl i,v,h=>by obtain⟨t,e⟩:=Value.isInt_shape (k:=i) (v:=v) h;exact .inl ⟨i,t,rfl,e⟩
 |.inr x,v,h=>by obtain⟨t,e⟩:=Value.isStrOf_shape (x:=x) (v:=v) h;exact .inr ⟨x,t,rfl,e⟩
def Ro(i:Int)(t:Tok):Ke (.inl i) (.int i t)=ZY:=by simp[Ke,Value.isInt]
def Rp(x:Str)(t:Tok):Ke (.inr x) (.str x t)=ZY:=by simp[Ke,Value.isStrOf]
def Xe(a b:Int):decide ((iE a:LO)=iE b)=(a==b):=by
 by_cases e:a=b
 .subst e;simp
 .have h:¬(iE a:LO)=iE b:=λq=>e (Sum.inl.inj q);rw[decide_eq_false h];exact (beq_eq_false_iff_ne.mpr e).symm
def Xf(a b:Str):decide ((l4 a:LO)=l4 b)=decide (a=b):=by
 by_cases e:a=b
 .subst e;simp
 .have h:¬(l4 a:LO)=l4 b:=λq=>e (Sum.inr.inj q);rw[decide_eq_false h,decide_eq_false e]
def Xg(a:Int)(b:Str):decide ((iE a:LO)=l4 b)=ZX:=decide_eq_false (λq=>nomatch q)
def Xh(a:Str)(b:Int):decide ((l4 a:LO)=iE b)=ZX:=decide_eq_false (λq=>nomatch q)
def lF(prog:bF)(w:cD):PySem.KeyKind prog w LO where
 is:=Ke
 hash:=a0E w
 inj:=λv a b z q=>by
  rcases ja z with⟨i,t,rfl,rfl⟩|⟨x,t,rfl,rfl⟩
  .rcases ja q with⟨j,u,rfl,e⟩|⟨y,u,rfl,e⟩
   .injection e with g _;rw[g]
   .exact nomatch e
  .rcases ja q with⟨j,u,rfl,e⟩|⟨y,u,rfl,e⟩
   .exact nomatch e
   .injection e with g _;rw[g]
 byValue:=λk v h=>by rcases ja h with⟨i,t,rfl,rfl⟩|⟨x,t,rfl,rfl⟩<;>rfl
 pyHash:=λn h=>by
  rcases ja n with⟨i,t,rfl,rfl⟩|⟨x,t,rfl,rfl⟩
  .exact wpAny_pyHash_int h
  .exact wpAny_pyHash_str h
 eqBool:=λB n h=>by
  rcases ja B with⟨i,t,rfl,rfl⟩|⟨x,t,rfl,rfl⟩
  .rcases ja n with⟨j,u,rfl,rfl⟩|⟨y,u,rfl,rfl⟩
   .rw[Xe]at h;exact wpAny_eqBool_int h
   .rw[Xg]at h;exact SeqAt.EqAt.int_str i t y u _ _ _ _ h
  .rcases ja n with⟨j,u,rfl,rfl⟩|⟨y,u,rfl,rfl⟩
   .rw[Xh]at h;exact SeqAt.EqAt.str_int x t j u _ _ _ _ h
   .rw[Xf]at h;exact wpAny_eqBool_str h
 «strs»:=λk x t v h=>by
  rcases ja h with⟨i,u,rfl,e⟩|⟨y,u,rfl,e⟩
  .exact nomatch e
  .injection e with g _
   subst g;cases v<;>rfl
def N7(prog:bF)(w:cD)(i:Int)(t:Tok):(lF prog w).is (.inl i) (.int i t)=ZY:=Ro i t
def yx(prog:bF)(w:cD)(x:Str)(t:Tok):(lF prog w).is (.inr x) (.str x t)=ZY:=Rp x t
end L2
namespace L2
open PySem PySem.Spec PyProof.Rows

inductive V where
 |non|bl (b:Bool)|int (i:Int)|str (x:Str)|byt (b:Array UInt8)|flt (b:UInt64)|ref (a:ak)|ty (n:String)
 deriving DecidableEq
def ee:V->aq->Prop
 |.non,u=>u=eG
 |.bl b,u=>u=qY b
 |.int i,u=>∃t,u=ue i t
 |.str x,u=>∃t,u=Value.str x t
 |.byt b,u=>∃t,u=Value.bytes b t
 |.flt b,u=>∃t,u=Value.float b t
 |.ref a,u=>u=bp a
 |.ty n,u=>u=iu n
abbrev dC:List V->List aq->Prop:=cE ee
def dC.length{xs:List V}{us:List aq}(r:dC xs us):xs.length=us.length:=jC r
def dC.get:∀{xs:List V} {us:List aq} {i:Nat} {x:V},dC xs us->xs[i]?=Z_ x->∃u,us[i]?=Z_ u/\ee x u
 |_,_,_,_,.nil,e=>by simp at e
 |_,_,0,_,.cons r _,e=>by simp at e;subst e;exact⟨_,rfl,r⟩
 |_,_,i+1,x,.cons _ t,e=>by obtain⟨u,h1,h2⟩:=dC.get (i:=i) (x:=x) t (by simpa using e);exact⟨u,by simpa using h1,h2⟩
def dC.set{x u}(r:ee x u):∀{xs:List V} {us:List aq} (i:Nat),dC xs us->dC (xs.set i x) (us.set i u)
 |_,_,_,.nil=>.nil
 |_,_,0,.cons _ t=>.cons r t
 |_,_,i+1,.cons q t=>.cons q (dC.set r i t)
def dC.append:∀{xs ys:List V} {us ws:List aq},dC xs us->dC ys ws->dC (xs++ys) (us++ws)
 |_,_,_,_,.nil,s=>s
 |_,_,_,_,.cons r t,s=>.cons r (dC.append t s)
def dC.take:∀{xs:List V} {us:List aq} (n:Nat),dC xs us->dC (xs.take n) (us.take n)
 |_,_,0,_=>.nil
 |_,_,_+1,.nil=>.nil
 |_,_,n+1,.cons r t=>.cons r (dC.take n t)
def dC.drop:∀{xs:List V} {us:List aq} (n:Nat),dC xs us->dC (xs.drop n) (us.drop n)
 |_,_,0,r=>r
 |_,_,_+1,.nil=>.nil
 |_,_,n+1,.cons _ t=>dC.drop n t
def Bw:Option V->Option aq->Prop
 |some v,Z_ u=>ee v u
 |none,ZZ=>True
 |_,_=>False
def KV{κ:Type}:List (κ×V)->List (κ×aq)->Prop:=cE λ(p:κ×V) (q:κ×aq)=>p.1=q.1/\ee p.2 q.2
def kV:LO->V
 |.inl i=>.int i
 |.inr x=>.str x
inductive HO where
 |lst (xs:List V)
 |tup (xs:List V)
 |dK (kvs:List (LO×V))|dT (kvs:List (K2×V))
 |set (S:Int->Bool) (n:Nat)
 |ins (C dx:ak) (fs:List (Str×V))
 |own (x:ak)
 |xd (fs:List (Str×V))
 |met (f x:ak)
 |rng (lo hi:Int)
 |frz (o:Obj) (u:HO)
 |tbl (ps:Array aq)
 |ext (φ:cQ->Prop)
abbrev Hp:=ak->Option HO
def a0p(H:Hp):K1->V->Prop
 |.inl i,v=>v=.int i
 |.inr l,v=>∃b,v=.ref b/\H b=Z_ (.tup (l.map V.int))
def oT(H:Hp)(k:K2)(a:ak):Prop:=∃xs,H a=Z_ (.tup xs)/\cE (a0p H) k xs
def oT.keeps{H H' k a}(g:∀b xs,H b=Z_ (.tup xs)->H' b=Z_ (.tup xs))(x:oT H k a):oT H' k a:=by
 obtain⟨xs,e,p⟩:=x;refine⟨xs,g _ _ e,Paired.a4W p λi v q=>?_⟩;cases i with
 |inl i=>exact q
 |inr l=>obtain⟨b,j,n⟩:=q;exact⟨b,j,g _ _ n⟩
def gw(H:Hp)(a:ak)(o:HO):Hp:=λb=>if b=a then Z_ o else H b
def eT{H a o}:gw H a o a=Z_ o:=by unfold gw;rw[i0p rfl]
def dy{H a b o}(h:b≠a):gw H a o b=H b:=by unfold gw;rw[i0n h]
def Vv{H a o u}:gw (gw H a o) a u=gw H a u:=by funext b;unfold gw;split<;>rfl
def T5{H:Hp}{a b:ak}{o u:HO}(h:H a=Z_ o)(h':H b=Z_ u)(d:o≠u):a≠b:=by intro e;subst e;rw[h]at h';exact d (az h')
def gc{H:Hp}{a b:ak}{o:HO}(h:H a=Z_ o)(h':H b=ZZ):a≠b:=by intro e;subst e;rw[h]at h';cases h'
section
variable (P:bF) (w:cD)
def iz(H:Hp)(h:cQ)(a:ak):HO->Prop
 |.lst xs=>xs.length<=bc/\∃(its:List aq) (n:Nat),dC xs its/\h.get? a=Z_ {cls:=.type "list",data:=.seq its.toArray n}
 |.tup xs=>xs.length<=bc/\∃its:List aq,dC xs its/\IsTup h a its.toArray
 |.dK g=>g.length<=bc/\(a==eX)=ZX/\∃j,KV g j/\h.DictOf (lF P w) a j
 |.dT g=>g.length<=bc/\(a==eX)=ZX/\∃xs:List (K2×ak×aq),
   cE (λ(p:K2×V) (q:K2×ak×aq)=>p.1=q.1/\oT H p.1 q.2.1/\ee p.2 q.2.2) g xs /\
   ∃o es ep,h.get? a=Z_ o/\o.ExactDict/\o.data=.dict es ep/\es.toList=xs.map (entryOfKey (fi P w))/\(xs.map (·.1)).Nodup
 |.set S n=>h.SetOf (intKind P w) a S n
 |.ins C dx fs=>H dx=Z_ (.own a)/\fs.length<=1000/\dx≠a/\h.get? a=Z_ (jj C dx) /\
   ∃mA,h.Ns1 dx mA/\(∀f,Bw (fs.lookup f) (mA f))/\GL mA (fs.map (·.1))
 |.own _=>∃o,h.get? a=Z_ o
 |.xd fs=>∃mA,h.Ns1 a mA/\∀f,Bw (fs.lookup f) (mA f)
 |.rng lo hi=>∃t u v,h.get? a=Z_ {cls:=.type "range",data:=.fields #[.int lo t,.int hi u,.int 1 v]}
 |.frz o u=>h.get? a=Z_ o/\iz H h a u
 |.tbl ps=>h.get? a=Z_ {cls:=.none,data:=.fields ps}
 |.met f x=>h.get? a=Z_ (Fe (.ref f) (.ref x))
 |.ext φ=>φ h/\(∃o,h.get? a=Z_ o)/\∀h1 h2:cQ,φ h1->(∀o,h1.get? a=Z_ o->h2.get? a=Z_ o)->φ h2
def yd(H:Hp)(h:cQ):Prop:=∀a o,H a=Z_ o->iz P w H h a o
end
section
variable {P:bF} {w:cD} {H H':Hp} {h h':cQ} {a:ak} {o:HO}
def iz.lt(x:iz P w H h a o):a<h.objs.size:=by
 cases o with
 |lst xs=>obtain⟨_,_,_,_,e⟩:=x;exact b7 e
 |tup xs=>obtain⟨_,_,_,p⟩:=x;exact p.lt
 |dK g=>obtain⟨_,_,_,_,o,_,_,e,_⟩:=x;exact b7 e
 |dT g=>obtain⟨_,_,_,_,o,_,_,e,_⟩:=x;exact b7 e
 |set S n=>obtain⟨o,_,_,_,e,_⟩:=x;exact b7 e
 |ins C dx fs=>obtain⟨_,_,_,e,_⟩:=x;exact b7 e
 |own y=>obtain⟨_,e⟩:=x;exact b7 e
 |xd fs=>obtain⟨_,⟨_,_,_,e,_⟩,_⟩:=x;exact b7 e
 |rng lo hi=>obtain⟨_,_,_,e⟩:=x;exact b7 e
 |frz ob u=>obtain⟨e,_⟩:=x;exact b7 e
 |tbl ps=>exact b7 (show h.get? a=Z_ _ from x)
 |met f y=>exact b7 (show h.get? a=Z_ _ from x)
 |ext φ=>obtain⟨_,⟨_,e⟩,_⟩:=x;exact b7 e
def Paired.a5i{α β:Type}{F G}:∀{l₁:List α} {l₂:List β},cE F l₁ l₂->(∀a b,F a b->G a b)->cE G l₁ l₂
 |_,_,.nil,_=>.nil
 |_,_,.cons r t,f=>.cons (f _ _ r) (Paired.a5i t f)
def iz.a4h(x:iz P w H h a o)(k:∀b u,(b=a\/H b=Z_ (.own a))->h.get? b=Z_ u->h'.get? b=Z_ u)
  (D:∀b,H b=Z_ (.own a)->H' b=Z_ (.own a))(F:∀b xs,H b=Z_ (.tup xs)->H' b=Z_ (.tup xs)):iz P w H' h' a o:=by
 induction o with
 |lst xs=>obtain⟨z,its,n,r,e⟩:=x;exact⟨z,its,n,r,k _ _ (.inl rfl) e⟩
 |tup xs=>obtain⟨z,its,r,g,e,c⟩:=x;exact⟨z,its,r,g,k _ _ (.inl rfl) e,c⟩
 |dK j=>obtain⟨z,y,G,r,g,es,ep,e,c⟩:=x;exact⟨z,y,G,r,g,es,ep,k _ _ (.inl rfl) e,c⟩
 |dT j=>obtain⟨z,y,xs,r,g,es,ep,e,c⟩:=x;exact⟨z,y,xs,Paired.a5i r λp q z=>⟨z.1,oT.keeps F z.2.1,z.2.2⟩,g,es,ep,k _ _ (.inl rfl) e,c⟩
 |set S n=>obtain⟨g,es,ep,t,e,c⟩:=x;exact⟨g,es,ep,t,k _ _ (.inl rfl) e,c⟩
 |ins C dx fs=>obtain⟨d,z,ne,e,mA,⟨B,es,ep,I,c⟩,r⟩:=x;exact⟨D _ d,z,ne,k _ _ (.inl rfl) e,mA,⟨B,es,ep,k _ _ (.inr d) I,c⟩,r⟩
 |own y=>obtain⟨g,e⟩:=x;exact⟨g,k _ _ (.inl rfl) e⟩
 |xd fs=>obtain⟨mA,⟨B,es,ep,e,c⟩,r⟩:=x;exact⟨mA,⟨B,es,ep,k _ _ (.inl rfl) e,c⟩,r⟩
 |rng lo hi=>obtain⟨t,u,v,e⟩:=x;exact⟨t,u,v,k _ _ (.inl rfl) e⟩
 |frz g u J=>obtain⟨e,q⟩:=x;exact⟨k _ _ (.inl rfl) e,J q⟩
 |tbl ps=>have e:h.get? a=Z_ {cls:=.none,data:=.fields ps}:=x;show h'.get? a=Z_ {cls:=.none,data:=.fields ps};exact k a _ (.inl rfl) e
 |met f y=>have e:h.get? a=Z_ (Fe (.ref f) (.ref y)):=x;show h'.get? a=Z_ (Fe (.ref f) (.ref y));exact k a _ (.inl rfl) e
 |ext φ=>obtain⟨p,⟨o,e⟩,st⟩:=x;exact⟨st _ _ p λo q=>k _ _ (.inl rfl) q,⟨o,k _ _ (.inl rfl) e⟩,st⟩
def yd.lt(x:yd P w H h)(e:H a=Z_ o):a<h.objs.size:=(x a o e).lt
def yd.fresh(x:yd P w H h)(e:h.objs.size<=a):H a=ZZ:=by
 cases q:H a with
 |none=>rfl
 |some u=>exact absurd (bV (x.lt q) e) (gC _)
def yd.kept(x:yd P w H h)(k:∀b u,h.get? b=Z_ u->h'.get? b=Z_ u):yd P w H h':=λa o e=>(x a o e).a4h (λb u _ q=>k b u q) (λ_ q=>q) λ_ _ q=>q
def yd.laid(x:yd P w H h)(k:∀b u,h.get? b=Z_ u->h'.get? b=Z_ u)(z:h.objs.size<=a)(g:iz P w (gw H a o) h' a o):yd P w (gw H a o) h':=λb u e=>by
 have j:=x.fresh z;by_cases n:b=a
 .subst n;rw[eT]at e;cases e;exact g
 .rw[dy n]at e;exact (x b u e).a4h (λc v _ q=>k c v q) (λc q=>by rwa[dy (gc q j)]) λc xs q=>by rwa[dy (gc q j)]
end
def Rd(H:Hp)(a:ak)(u:HO):Prop:=H a=Z_ u\/∃o,H a=Z_ (.frz o u)
def Rd.ok{P w H h a u}(r:Rd H a u)(x:yd P w H h):iz P w H h a u:=by
 rcases r with r|⟨o,r⟩
 .exact x a u r
 .obtain⟨_,q⟩:=x a _ r;exact q
def WO:Option HO->Prop
 |some (.lst _)=>True
 |some (.dK _)=>True
 |some (.dT _)=>True
 |some (.set _ _)=>True
 |some (.ins _ _ _)=>True
 |some (.ext _)=>True
 |_=>False
section
variable {P:bF} {w:cD} {H:Hp} {h h':cQ} {x e:ak} {o':HO}
def yd.write(ok:yd P w H h)(B:WO (H x))(he:e=x\/H e=Z_ (.own x))(k:∀b u,b≠e->h.get? b=Z_ u->h'.get? b=Z_ u)(F:∃u,h'.get? e=Z_ u)
  (G:iz P w (gw H x o') h' x o'):yd P w (gw H x o') h':=λb u q=>by
 have j:∀c y,H c=Z_ (.own y)->c≠x:=λc y r z=>by subst z;rw[r]at B;exact B
 have n:∀c xs,H c=Z_ (.tup xs)->c≠x:=λc xs r z=>by subst z;rw[r]at B;exact B
 by_cases D:b=x
 .subst D;rw[eT]at q;cases q;exact G
 .rw[dy D]at q;by_cases g:b=e
  .have I:H b=Z_ (.own x):=by
    rcases he with z|z
    .exact absurd (g.trans z) D
    .rwa[g]
   rw[q]at I;cases I;obtain⟨v,J⟩:=F;exact⟨v,by rwa[g]⟩
  .refine (ok b u q).a4h (λc v hc r=>k c v ?_ r) (λc r=>by rwa[dy (j c b r)]) λc xs r=>by rwa[dy (n c xs r)]
   rcases hc with rfl|hc
   .exact g
   .rintro rfl;rcases he with z|z
    .exact j c b hc z
    .rw[hc]at z;cases z;exact D rfl
end
structure Un(fs ex:List ak)(H H':Hp)(h h':cQ):Prop where
 keep:∀b o,h.get? b=Z_ o->H b=ZZ->b∉fs->b∉ex->h'.get? b=Z_ o
 slot:∀b o,h.get? b=Z_ o->H b=ZZ->b∈fs->b∉ex->∃sl,h'.get? b=Z_ {o with slots:=sl}
 free:∀b o,h.get? b=Z_ o->H b=ZZ->b∉ex->H' b=ZZ
 there:∀b o,h.get? b=Z_ o->b∉ex->∃o',h'.get? b=Z_ o'
 a4e:∀b xs,H b=Z_ (.tup xs)->H' b=Z_ (.tup xs)
 a3Y:∀b o u,H b=Z_ (.frz o u)->H' b=Z_ (.frz o u)
 a4g:∀b ps,H b=Z_ (.tbl ps)->∃more,H' b=Z_ (.tbl (ps++more))
section
variable {fs fs' ex ex':List ak} {H H1 H2:Hp} {h h1 h2 h':cQ} {a x e:ak} {o:HO}
def Un.any(u:Un fs ex H H1 h h1){b ob}(q:h.get? b=Z_ ob)(n:H b=ZZ)(g:b∉ex):∃z,h1.get? b=Z_ {ob with slots:=z}:=by
 by_cases j:b∈fs
 .exact u.slot b ob q n j g
 .exact⟨ob.slots,u.keep b ob q n j g⟩
def Un.kept(k:∀b u,h.get? b=Z_ u->h'.get? b=Z_ u):Un fs ex H H h h':=⟨λb g q _ _ _=>k b g q,λb g q _ _ _=>⟨g.slots,k b g q⟩,λ_ _ _ n _=>n,λb g q _=>⟨g,k b g q⟩,λ_ _ q=>q,λ_ _ _ q=>q,λ_ ps q=>⟨#[],by rw[q];simp⟩⟩
def Un.refl:Un fs ex H H h h:=Un.kept λ_ _ q=>q
def Un.laid(k:∀b u,h.get? b=Z_ u->h'.get? b=Z_ u)(j:h.objs.size<=a)(g:H a=ZZ):Un fs ex H (gw H a o) h h' where
 keep:=λb u q _ _ _=>k b u q
 slot:=λb u q _ _ _=>⟨u.slots,k b u q⟩
 free:=λb u q n _=>by rwa[dy (b_ (bV (b7 q) j))]
 there:=λb u q _=>⟨u,k b u q⟩
 a4e:=λb xs q=>by rwa[dy (gc q g)]
 a3Y:=λb u xs q=>by rwa[dy (gc q g)]
 a4g:=λb ps q=>⟨#[],by rw[dy (gc q g),q];simp⟩
def Un.write(j:WO (H x))(he:e=x\/H e=Z_ (.own x))(k:∀b u,b≠e->h.get? b=Z_ u->h'.get? b=Z_ u)(B:∃u,h'.get? e=Z_ u):Un fs ex H (gw H x o) h h':=by
 have D:∀b,H b=ZZ->b≠x:=λb n z=>by subst z;rw[n]at j;exact j
 have F:∀b,H b=ZZ->b≠e:=λb n z=>by
  subst z;rcases he with r|r
  .exact D b n r
  .rw[n]at r;cases r
 have hm:∀b u,H b=Z_ u->¬WO (Z_ u)->b≠x:=λb u q G z=>by subst z;rw[q]at j;exact G j
 refine⟨λb u q n _ _=>k b u (F b n) q,λb u q n _ _=>⟨u.slots,k b u (F b n) q⟩,λb u q n _=>by rwa[dy (D b n)],λb u q _=>?_,
  λb xs q=>by rwa[dy (hm b _ q λz=>z)],λb u xs q=>by rwa[dy (hm b _ q λz=>z)],λb ps q=>⟨#[],by rw[dy (hm b _ q λz=>z),q];simp⟩⟩
 by_cases g:b=e
 .subst g;exact B
 .exact⟨u,k b u g q⟩
end
def a0q(h:cQ)(H:Hp):List ak:=(bL h.objs.size).filter λa=>(H a).isSome
def LP(h:cQ)(H:Hp):cQ:=PySem.W.hideAll h (a0q h H)
def Rq(h:cQ)(H:Hp):(LP h H).objs.size=h.objs.size:=PySem.W.hideAll_size _ _
def T6{h:cQ}{H b o}(e:h.get? b=Z_ o)(n:H b=ZZ):(LP h H).get? b=Z_ o:=
 PySem.W.hideAll_get _ e λhm=>by have q:(H b).isSome=ZY:=(du.mp hm).2;rw[n]at q;simp at q
def Vw{h:cQ}{H b o}(e:(LP h H).get? b=Z_ o):h.get? b=Z_ o/\H b=ZZ:=by
 have g:h.get? b=Z_ o:=PySem.W.of_hideAll (a0q h H) e;refine⟨g,?_⟩;cases q:H b with
 |none=>rfl
 |some x=>have hm:b∈a0q h H:=du.mpr ⟨cT.mpr (b7 g),by simp[q]⟩;have z:(LP h H).get? b=ZZ:=PySem.W.hideAll_none (a0q h H) hm;rw[z]at e;cases e
end L2
namespace L2
open PySem PySem.Spec PyProof.Rows

structure jb(K:ab)(mg:Str->Option aq)(base:cQ):Prop where
 kin:K.In base
 glob:base.Ns eu mg
 blt:∃mb,base.Ns builtinsNs mb/\∀x:Str,x≠"__name__"->mb x=oN x
 nolimit:base.NoLimit
structure Cx where
 prog:bF
 w:cD
 K:ab
 mg:Str->Option aq
 base:cQ
 A:cB
 N:List Str
 s_0:aA
 H_0:Hp
 env:Env
 outer:List Env
 stack:List Env
 ex:List ak
 fn:Str->Bool
 calm:Bool
 pn:List (ak×Obj)
 xe:aq->aA->Prop
def T7(l:List Env):List ak:=l.filterMap (·.frame)
noncomputable abbrev Cx.fs(X:Cx):List ak:=T7 X.outer
def SU(g:gn)(x:Str):Prop:=g.names.lookup x=Z_ .local\/g.names.lookup x=Z_ .cell\/g.names.lookup x=Z_ .free
def Qh(g:gn)(x:Str):Prop:=g.names.lookup x=Z_ .local\/g.names.lookup x=Z_ .cell
def a0F(env:Env)(h:cQ)(m:Str->Option aq)(x:Str)(u:aq):Prop:=(env.kindOf x=Z_ .local/\m x=Z_ u)\/((env.kindOf x=Z_ .cell\/env.kindOf x=Z_ .free)/\∃c,env.cells.lookup x=Z_ c/\h.IsCell c (Z_ u))
structure Cx.Ok(X:Cx):Prop where
 mod:jb X.K X.mg X.base
 kind:X.env.scope.kind=.function
 glob:X.env.globals=eu
 blt:X.env.builtins=builtinsNs
 above:X.s_0.heap.objs.size<=X.env.locals
 inj:∀x y c,X.env.cells.lookup x=Z_ c->X.env.cells.lookup y=Z_ c->x=y
 has:∀x,(X.env.kindOf x=Z_ .cell\/X.env.kindOf x=Z_ .free)->∃c,X.env.cells.lookup x=Z_ c
 cab:∀x c,X.fn x=ZY->X.env.cells.lookup x=Z_ c->X.s_0.heap.objs.size<=c
 hd:X.calm=ZY->X.A.handled=ZZ
 frames:X.A.frames=Z_ X.stack
 stk:X.stack=X.outer\/(X.stack=X.env::X.outer/\X.env.frame=Z_ X.env.locals)
 exf:∀b∈X.ex,b≠X.env.locals/\∀x c,X.env.cells.lookup x=Z_ c->c≠b
 bs:∀b o,X.base.get? b=Z_ o->X.s_0.heap.get? b=Z_ o/\X.H_0 b=ZZ
 bsz:X.base.objs.size<=X.s_0.heap.objs.size
 a4T:∀b o,X.base.get? b=Z_ o->b∉X.ex
 a4J:∀b∈X.ex,b∉X.fs
 a3z:X.s_0.heap.FunFrames X.base X.outer
 frf:∀b∈X.fs,X.H_0 b=ZZ
structure cq(X:Cx)(pins:List (ak×Obj))(σ:List (Option V))(H:Hp)(s:aA):Prop where
 ok:X.Ok
 os:s.os=X.s_0.os
 bare:AllBare s.gens
 base:Un X.fs X.ex X.H_0 H X.s_0.heap s.heap
 loc:∃m,s.heap.Ns X.env.locals m/\∀(i:Nat) (x:Str) (v:V),X.N[i]?=Z_ x->σ[i]?=Z_ (Z_ v)->SU X.env.scope x->∃u,ee v u/\a0F X.env s.heap m x u
 cell:∀x c,X.env.cells.lookup x=Z_ c->∃v,s.heap.IsCell c v
 free:H X.env.locals=ZZ
 a2D:∀x c,X.env.cells.lookup x=Z_ c->H c=ZZ
 pin:∀p∈X.pn++pins,s.heap.get? p.1=Z_ p.2/\H p.1=ZZ/\p.1≠X.env.locals/\p.1∉X.fs/\∀v,p.2.data≠.cell v
 hok:yd X.prog X.w H s.heap
 len:σ.length=X.N.length
section
variable {X:Cx} {pins:List (ak×Obj)} {σ:List (Option V)} {H H':Hp} {s:aA} {h':cQ}
def Cx.Ok.a5C(ok:X.Ok){b o}(e:X.base.get? b=Z_ o):b∉X.fs:=λg=>by have:=(ok.a3z.mem g).1;rw[e]at this;cases this
def cq.bs(I:cq X pins σ H s):∀b o,X.base.get? b=Z_ o->s.heap.get? b=Z_ o/\H b=ZZ:=λb o e=>⟨I.base.keep b o (I.ok.bs b o e).1 (I.ok.bs b o e).2 (I.ok.a5C e) (I.ok.a4T b o e),I.base.free b o (I.ok.bs b o e).1 (I.ok.bs b o e).2 (I.ok.a4T b o e)⟩
def cq.bk(I:cq X pins σ H s):∀b o,X.base.get? b=Z_ o->s.heap.get? b=Z_ o:=λb o e=>(I.bs b o e).1
def cq.mod(I:cq X pins σ H s):jb X.K X.mg X.base:=I.ok.mod
def cq.kIn(I:cq X pins σ H s):X.K.In s.heap:=I.ok.mod.kin.keeps I.bk
def cq.fr(I:cq X pins σ H s):∃m,Fr X.base X.env.locals s.heap m:=
 let ⟨m,g,_⟩:=I.loc
 ⟨m,g,I.bk,c6 I.ok.bsz I.ok.above⟩
def cq.lt(I:cq X pins σ H s):X.env.locals<s.heap.objs.size:=let ⟨_,g,_⟩:=I.loc;g.lt
def cq.sz(I:cq X pins σ H s):X.s_0.heap.objs.size<=s.heap.objs.size:=c6 I.ok.above (Jv I.lt)
def cq.a5A(I:cq X pins σ H s){a}(h:s.heap.objs.size<=a):a∉X.fs:=λg=>by obtain⟨_,o,j,_⟩:=I.ok.a3z.mem g;exact absurd (bV (b7 j) (c6 I.sz h)) (gC _)
def cq.cne(I:cq X pins σ H s):∀x c,X.env.cells.lookup x=Z_ c->c≠X.env.locals:=λx c e z=>by obtain⟨v,o,n,q⟩:=I.cell x c e;obtain⟨m,⟨o',es,ep,g,j,_⟩,_⟩:=I.loc;rw[z,g]at n;cases n;rw[j]at q;cases q
def cq.a3z(I:cq X pins σ H s):s.heap.FunFrames X.base X.outer:=by
 have g:∀(l:List Env),(∀b∈T7 l,b∈X.fs)->X.s_0.heap.FunFrames X.base l->s.heap.FunFrames X.base l:=by
  intro l;induction l with
  |nil=>intro _ _;trivial
  |cons env r D=>intro B F;obtain⟨G,⟨L,o,j,J,M,N⟩,O⟩:=F;have n:L∈X.fs:=B L (by unfold T7;rw[dD,j];exact bG);obtain⟨sl,e⟩:=I.base.slot L o M (I.ok.frf L n) n λz=>I.ok.a4J L z n;exact⟨G,⟨L,_,j,J,e,N⟩,D (λb q=>B b (by unfold T7;rw[dD,j];exact ba _ q)) O⟩
 exact g X.outer (λ_ q=>q) I.ok.a3z
def cq.stack(I:cq X pins σ H s):s.heap.FunFrames X.base X.stack:=by
 rcases I.ok.stk with e|⟨e,g⟩
 .rw[e];exact I.a3z
 .rw[e];obtain⟨m,j,_⟩:=I.loc;refine .cons (by rw[I.ok.kind];decide) g j ?_ I.a3z;exact Heap.get?_none_of_le (c6 I.ok.bsz I.ok.above)
def cq.a4o(I:cq X pins σ H s):∀b∈T7 X.stack,b∈X.env.locals::X.fs:=λb g=>by
 rcases I.ok.stk with e|⟨e,j⟩
 .rw[e]at g;exact ba _ g
 .rw[e]at g;unfold T7 at g;rw[dD,j]at g;exact g
def cq.a4r(I:cq X pins σ H s):∀b∈T7 X.stack,H b=ZZ:=λb hb=>by
 rcases aL.mp (I.a4o b hb) with e|hb
 .rw[e];exact I.free
 .obtain⟨_,o,g,_⟩:=I.ok.a3z.mem hb;exact I.base.free b o g (I.ok.frf b hb) λz=>I.ok.a4J b z hb
def cq.step{g':Array GenState}{t':Nat}{d':Drawn}{ch:List ak}(I:cq X pins σ H s)
  (j:∀b∈ch,(b∈X.ex\/X.s_0.heap.objs.size<=b)/\b≠X.env.locals/\(∀x c,X.env.cells.lookup x=Z_ c->c≠b)/\∀p∈X.pn++pins,p.1≠b)
  (keep:∀b o,b≠X.env.locals->b∉X.fs->b∉ch->s.heap.get? b=Z_ o->H b=ZZ->h'.get? b=Z_ o)
  (slot:∀b o,b≠X.env.locals->b∈X.fs->b∉ch->s.heap.get? b=Z_ o->H b=ZZ->∃N,h'.get? b=Z_ {o with slots:=N})(free:∀b o,b∉ch->s.heap.get? b=Z_ o->H b=ZZ->H' b=ZZ)
  (there:∀b o,b∉ch->s.heap.get? b=Z_ o->∃o',h'.get? b=Z_ o')
  (a4e:∀b xs,H b=Z_ (.tup xs)->H' b=Z_ (.tup xs))(a3Y:∀b o u,H b=Z_ (.frz o u)->H' b=Z_ (.frz o u))(a4g:∀b ps,H b=Z_ (.tbl ps)->∃more,H' b=Z_ (.tbl (ps++more)))
  (ns:∀m,s.heap.Ns X.env.locals m->h'.Ns X.env.locals m)(O:yd X.prog X.w H' h')(Z:AllBare g') :
  cq X pins σ H' {s with heap:=h',gens:=g',drawn:=d',toks:=t'}:=by
 have L:∀b o,X.s_0.heap.get? b=Z_ o->b≠X.env.locals:=λb o e=>b_ (bV (b7 e) I.ok.above);have D:∀b o,X.s_0.heap.get? b=Z_ o->b∉X.ex->b∉ch:=λb o e g G=>by
  rcases (j b G).1 with z|z
  .exact g z
  .exact absurd (bV (b7 e) z) (gC _)
 have cellK:∀x c,X.env.cells.lookup x=Z_ c->∀v,s.heap.IsCell c v->h'.IsCell c v:=λx c e v ⟨o,J,R⟩=>by
  have B:c∉ch:=λz=>(j c z).2.2.1 x c e rfl;by_cases U:c∈X.fs
  .obtain⟨N,q⟩:=slot c o (I.cne x c e) U B J (I.a2D x c e);exact⟨_,q,R⟩
  .exact⟨o,keep c o (I.cne x c e) U B J (I.a2D x c e),R⟩
 refine⟨I.ok,I.os,Z,⟨λb o e n G g=>?_,λb o e n G g=>?_,λb o e n g=>?_,λb o e g=>?_,λb xs e=>a4e b xs (I.base.a4e b xs e),λb o xs e=>a3Y b o xs (I.base.a3Y b o xs e),λb ps e=>?_⟩,?_,λx c e=>?_,?_,λx c e=>?_,λp W=>?_,O,I.len⟩
 .exact keep b o (L b o e) G (D b o e g) (I.base.keep b o e n G g) (I.base.free b o e n g)
 .obtain⟨N,F⟩:=I.base.slot b o e n G g;obtain⟨S,M⟩:=slot b _ (L b o e) G (D b o e g) F (I.base.free b o e n g);exact⟨S,M⟩
 .obtain⟨o',F⟩:=I.base.there b o e g;exact free b o' (D b o e g) F (I.base.free b o e n g)
 .obtain⟨o',F⟩:=I.base.there b o e g;exact there b o' (D b o e g) F
 .obtain⟨m1,F⟩:=I.base.a4g b ps e;obtain⟨m2,M⟩:=a4g b _ F;exact⟨m1++m2,by rw[M,Array.append_assoc]⟩
 .obtain⟨m,hn,hl⟩:=I.loc;refine⟨m,ns m hn,λi x v F M e3=>?_⟩;obtain⟨u,r,l⟩:=hl i x v F M e3;refine⟨u,r,?_⟩;rcases l with l|⟨k,c,e,z⟩
  .exact .inl l
  .exact .inr ⟨k,c,e,cellK x c e _ z⟩
 .obtain⟨v,z⟩:=I.cell x c e;exact⟨v,cellK x c e v z⟩
 .obtain⟨m,⟨o,_,_,J,_⟩,_⟩:=I.loc;exact free _ o (λz=>(j _ z).2.1 rfl) J I.free
 .obtain⟨v,o,J,R⟩:=I.cell x c e;exact free c o (λz=>(j c z).2.2.1 x c e rfl) J (I.a2D x c e)
 .obtain⟨e,n,ne,Y,d⟩:=I.pin p W;have B:p.1∉ch:=λz=>(j p.1 z).2.2.2 p W rfl;exact⟨keep p.1 p.2 ne Y B e n,free p.1 p.2 B e n,ne,Y,d⟩
def cq.un{t':Nat}(I:cq X pins σ H s)(u:Un X.fs [] H H' s.heap h')(j:yd X.prog X.w H' h'):cq X pins σ H' {s with heap:=h',toks:=t'}:=by
 obtain⟨m,⟨o,es,ep,F,r⟩,_⟩:=id I.loc;obtain⟨sl,G⟩:=u.any F I.free (by simp);exact I.step (g':=s.gens) (d':=s.drawn) (ch:=[]) (λ_ z=>nomatch z) (λb o _ q _ e n=>u.keep b o e n q (by simp)) (λb o _ q _ e n=>u.slot b o e n q (by simp)) (λb o _ e n=>u.free b o e n (by simp)) (λb o _ e=>u.there b o e (by simp)) u.a4e u.a3Y u.a4g (λm' hm=>by obtain⟨o',B,D,g,J⟩:=hm;rw[F]at g;cases g;exact⟨_,B,D,G,J⟩) j I.bare
def cq.call{g'}{t':Nat}{d' ch}(I:cq X pins σ H s)(u:Un (T7 X.stack) ch H H' s.heap h')(B:yd X.prog X.w H' h')(L:AllBare g')
  (j:∀b∈ch,(b∈X.ex\/X.s_0.heap.objs.size<=b)/\b≠X.env.locals/\(∀x c,X.env.cells.lookup x=Z_ c->c≠b)/\∀p∈X.pn++pins,p.1≠b) :
  cq X pins σ H' {s with heap:=h',gens:=g',drawn:=d',toks:=t'}:=by
 obtain⟨m,⟨o,es,ep,J,r⟩,_⟩:=id I.loc;obtain⟨sl,D⟩:=u.any J I.free λz=>(j _ z).2.1 rfl;exact I.step (ch:=ch) j (λb o D M g e n=>u.keep b o e n (λz=>(aL.mp (I.a4o b z)).elim D M) g) (λb o _ _ g e n=>u.any e n g) (λb o g e n=>u.free b o e n g) (λb o g e=>u.there b o e g) u.a4e u.a3Y u.a4g (λm' hm=>by obtain⟨o',F,G,q,N⟩:=hm;rw[J]at q;cases q;exact⟨_,F,G,D,N⟩) B L
def cq.turned{t':Nat}{g:ak}(I:cq X pins σ H s)(k:∀b o,b≠g->s.heap.get? b=Z_ o->h'.get? b=Z_ o)(F:H g=ZZ)(D:g≠X.env.locals)
  (h1:g∈X.ex\/X.s_0.heap.objs.size<=g)(h2:∀x c,X.env.cells.lookup x=Z_ c->c≠g)(G:∀p∈X.pn++pins,p.1≠g):cq X pins σ H {s with heap:=h',toks:=t'}:=by
 have B:∀b u,H b=Z_ u->b≠g:=λb u e z=>by rw[z,F]at e;cases e
 refine I.step (g':=s.gens) (d':=s.drawn) (ch:=[g]) (λb J=>?_) (λb o _ _ j e _=>k b o (λz=>j (by simp[z])) e) (λb o _ _ j e _=>⟨o.slots,k b o (λz=>j (by simp[z])) e⟩) (λ_ _ _ _ n=>n)
  (λb o j e=>⟨o,k b o (λz=>j (by simp[z])) e⟩) (λ_ _ e=>e) (λ_ _ _ e=>e) (λb ps e=>⟨#[],by rw[e];simp⟩) (λm hm=>?_) (λb u e=>?_) I.bare
 .have e:b=g:=by simpa using J
  subst e;exact⟨h1,D,h2,G⟩
 .obtain⟨o,es,ep,L,r⟩:=hm;exact⟨o,es,ep,k _ o (aG D) L,r⟩
 .refine (I.hok b u e).a4h (λc v j q=>k c v ?_ q) (λ_ q=>q) λ_ _ q=>q;rcases j with z|z
  .rw[z];exact B b u e
  .exact B c _ z
def cq.tok(I:cq X pins σ H s)(t:Nat):cq X pins σ H {s with toks:=t}:=I.un (h':=s.heap) (t':=t) Un.refl I.hok
def cq.kept{t':Nat}(I:cq X pins σ H s)(k:∀b u,s.heap.get? b=Z_ u->h'.get? b=Z_ u):cq X pins σ H {s with heap:=h',toks:=t'}:=I.un (Un.kept k) (I.hok.kept k)
def cq.laid{a o}{t':Nat}(I:cq X pins σ H s)(k:∀b u,s.heap.get? b=Z_ u->h'.get? b=Z_ u)(g:s.heap.objs.size<=a)(j:iz X.prog X.w (gw H a o) h' a o):
  cq X pins σ (gw H a o) {s with heap:=h',toks:=t'}:=I.un (Un.laid k g (I.hok.fresh g)) (I.hok.laid k g j)
def cq.write{x e o}{t':Nat}(I:cq X pins σ H s)(n:WO (H x))(he:e=x\/H e=Z_ (.own x))(k:∀b u,b≠e->s.heap.get? b=Z_ u->h'.get? b=Z_ u)(g:∃u,h'.get? e=Z_ u)
  (j:iz X.prog X.w (gw H x o) h' x o):cq X pins σ (gw H x o) {s with heap:=h',toks:=t'}:=I.un (Un.write n he k g) (I.hok.write n he k g j)
def cq.weak{σ':List (Option V)}(I:cq X pins σ H s)(j:σ'.length=σ.length)(w:∀(i:Nat) v,σ'[i]?=Z_ (Z_ v)->σ[i]?=Z_ (Z_ v)):cq X pins σ' H s:=⟨I.ok,I.os,I.bare,I.base,let ⟨m,n,g⟩:=I.loc;⟨m,n,λi x v q z B=>g i x v q (w i v z) B⟩,I.cell,I.free,I.a2D,I.pin,I.hok,j.trans I.len⟩
def cq.a4v{g:List (ak×Obj)}(I:cq X pins σ H s)(h:∀p∈g,s.heap.get? p.1=Z_ p.2/\H p.1=ZZ/\p.1≠X.env.locals/\p.1∉X.fs/\∀v,p.2.data≠.cell v):cq X g σ H s:=⟨I.ok,I.os,I.bare,I.base,I.loc,I.cell,I.free,I.a2D,λp j=>(aX.mp j).elim (λz=>I.pin p (b9 _ z)) (h p),I.hok,I.len⟩
def Hx{N:List Str}(g:N.Nodup){i j:Nat}{x}(a:N[i]?=Z_ x)(b:N[j]?=Z_ x):i=j:=by obtain⟨h1,n⟩:=ax.mp a;obtain⟨h2,q⟩:=ax.mp b;exact (List.getElem_inj g).mp (n.trans q.symm)
def Kf{M A E}{i:Nat}{x v u Q}(I:cq X pins σ H s)(hN:X.N.Nodup)(hi:X.N[i]?=Z_ x)(D:Qh X.env.scope x)(r:ee v u)
  (h:∀s',cq X pins (σ.set i (Z_ v)) H s'->(∃a,jB a s.heap s'.heap/\(a=X.env.locals\/X.env.cells.lookup x=Z_ a))->Q () s')(hf:5<|X.fn x=ZY\/X.env.scope.names.lookup x=Z_ .local):bf M A (storeName X.env x u) Q E s:=by
 obtain⟨m,hn,hl⟩:=id I.loc;have S:(X.env.scope.kind==.class||(X.env.scope.kind==.module&&X.env.locals != X.env.globals))=ZX:=by rw[I.ok.kind];rfl
 have hiσ:i<σ.length:=by rw[I.len];exact (ax.mp hi).1
 have J:=I.cne;have tracked:∀{a:ak} {h':cQ},(∃o,s.heap.get? a=Z_ o/\H a=ZZ)->jB a s.heap h'->yd X.prog X.w H h':=λ{a h'} ha g b ob e=>by
  obtain⟨_,_,F⟩:=ha;refine (I.hok b ob e).a4h (λc w' hc q=>(g.2 c ?_).trans q) (λ_ q=>q) λ_ _ q=>q;rintro rfl;rcases hc with rfl|hc
  .rw[F]at e;cases e
  .rw[F]at hc;cases hc
 rcases D with hk|hk
 .refine wpAny_storeName_local hk hn (λh' hn' g=>?_) S;obtain⟨oL,_,_,hoL,_⟩:=id hn;refine h _ ⟨I.ok,I.os,I.bare,⟨λb o e n L D=>?_,λb o e n L D=>?_,I.base.free,λb o e D=>?_,I.base.a4e,I.base.a3Y,I.base.a4g⟩,⟨_,hn',λj y v' B G e3=>?_⟩,λy c e=>?_,I.free,I.a2D,λp hp=>?_,tracked ⟨oL,hoL,I.free⟩ g,by simpa using I.len⟩ ⟨_,g,.inl rfl⟩
  .exact (g.2 b (b_ (bV (b7 e) I.ok.above))).trans (I.base.keep b o e n L D)
  .obtain⟨sl,B⟩:=I.base.slot b o e n L D;exact⟨sl,(g.2 b (b_ (bV (b7 e) I.ok.above))).trans B⟩
  .obtain⟨o',B⟩:=I.base.there b o e D;exact⟨o',(g.2 b (b_ (bV (b7 e) I.ok.above))).trans B⟩
  .by_cases O:j=i
   .subst O;rw[hi]at B;cases B;rw[kX hiσ]at G;cases G;exact⟨u,r,.inl ⟨hk,by simp⟩⟩
   .rw[dk (aG O)]at G;obtain⟨u',r',q⟩:=hl j y v' B G e3;refine⟨u',r',?_⟩;rcases q with⟨k,e⟩|⟨k,c,e,z⟩
    .refine .inl ⟨k,?_⟩;have:y≠x:=λe=>O (Hx hN B (e▸hi));simp[this,e]
    .exact .inr ⟨k,c,e,z.sameBut g (J y c e)⟩
  .obtain⟨w',z⟩:=I.cell y c e;exact⟨w',z.sameBut g (J y c e)⟩
  .obtain⟨e,n,ne,nf,d⟩:=I.pin p hp;exact⟨(g.2 p.1 ne).trans e,n,ne,nf,d⟩
 .have R:X.fn x=ZY:=by
   rcases hf with z|z
   .exact z
   .rw[z]at hk;cases hk
  obtain⟨c,hc⟩:=I.ok.has x (.inl hk);obtain⟨w',z⟩:=I.cell x c hc;refine wpAny_storeName_cell I.ok.kind hk hc z (λh' U g=>?_);obtain⟨oc,W,Y⟩:=id z;refine h {s with heap:=h'} ⟨I.ok,I.os,I.bare,⟨λb o e n L D=>?_,λb o e n L D=>?_,I.base.free,λb o e D=>?_,I.base.a4e,I.base.a3Y,I.base.a4g⟩,⟨m,hn.sameBut g (aG (J x c hc)),λj y v' B G e3=>?_⟩,λy c' e=>?_,I.free,I.a2D,λp hp=>?_,tracked ⟨oc,W,I.a2D x c hc⟩ g,by simpa using I.len⟩ ⟨c,g,.inr hc⟩
  .exact (g.2 b (b_ (bV (b7 e) (I.ok.cab x c R hc)))).trans (I.base.keep b o e n L D)
  .obtain⟨sl,B⟩:=I.base.slot b o e n L D;exact⟨sl,(g.2 b (b_ (bV (b7 e) (I.ok.cab x c R hc)))).trans B⟩
  .obtain⟨o',B⟩:=I.base.there b o e D;exact⟨o',(g.2 b (b_ (bV (b7 e) (I.ok.cab x c R hc)))).trans B⟩
  .by_cases O:j=i
   .subst O;rw[hi]at B;cases B;rw[kX hiσ]at G;cases G;exact⟨u,r,.inr ⟨.inl hk,c,hc,U⟩⟩
   .rw[dk (aG O)]at G;obtain⟨u',r',q⟩:=hl j y v' B G e3;refine⟨u',r',?_⟩;rcases q with q|⟨k,c',e,z'⟩
    .exact .inl q
    .refine .inr ⟨k,c',e,z'.sameBut g ?_⟩;rintro rfl;exact O (Hx hN B (I.ok.inj _ _ _ e hc▸hi))
  .by_cases Z:c'=c
   .subst Z;exact⟨_,U⟩
   .obtain⟨w2,z2⟩:=I.cell y c' e;exact⟨w2,z2.sameBut g Z⟩
  .obtain⟨e,n,ne,nf,d⟩:=I.pin p hp;refine⟨(g.2 p.1 ?_).trans e,n,ne,nf,d⟩;intro q;rw[q,W]at e;have q':oc=p.2:=az e;exact d w' (by rwa[<-q'])
def N8{M A E}{i:Nat}{x v u Q}(I:cq X pins σ H s)(g:X.N.Nodup)(hi:X.N[i]?=Z_ x)(j:Qh X.env.scope x)(r:ee v u)
  (h:∀s',cq X pins (σ.set i (Z_ v)) H s'->Q () s')(hf:5<|X.fn x=ZY\/X.env.scope.names.lookup x=Z_ .local):bf M A (storeName X.env x u) Q E s:=
 Kf I g hi j r (λs' n _=>h s' n) hf
def cq.a5o{s':aA}{ch}(I:cq X pins σ H s)(n:s'.os=s.os)(u:Un (T7 X.stack) ch H H' s.heap s'.heap)(g:yd X.prog X.w H' s'.heap)(q:AllBare s'.gens)
  (j:∀b∈ch,(b∈X.ex\/X.s_0.heap.objs.size<=b)/\b≠X.env.locals/\(∀x c,X.env.cells.lookup x=Z_ c->c≠b)/\∀p∈X.pn++pins,p.1≠b):cq X pins σ H' s':=by
 obtain⟨h',g',d',t',o'⟩:=s';have e:o'=s.os:=n;subst e;exact I.call (g':=g') (t':=t') (d':=d') u g q j
end
abbrev XK:=aq->Option ak->Hp->Prop
abbrev St:=List (Option V)
abbrev VK:=V->Hp->Prop
abbrev TE:=St->Hp->VK->Prop
abbrev TT:=St->Hp->(Bool->Hp->Prop)->Prop
abbrev TA:=St->Hp->(List V->Hp->Prop)->Prop
structure OR where
 nx:St->Hp->Prop
 rt:VK
 bk:St->Hp->Prop:=λ_ _=>False
 ct:St->Hp->Prop:=λ_ _=>False
abbrev TS:=OR->St->Hp->Prop
def EP(X:Cx)(pins:List (ak×Obj))(σ:St)(Q:VK)(u:aq)(s':aA):Prop:=∃v H',cq X pins σ H' s'/\ee v u/\Q v H'
def TP(X:Cx)(pins:List (ak×Obj))(σ:St)(Q:Bool->Hp->Prop)(b:Bool)(s':aA):Prop:=∃H',cq X pins σ H' s'/\Q b H'
def AP(X:Cx)(pins:List (ak×Obj))(σ:St)(Q:List V->Hp->Prop)(us:List aq)(s':aA):Prop:=∃g H',cq X pins σ H' s'/\dC g us/\Q g H'
def SP(X:Cx)(pins:List (ak×Obj))(D:OR)(f:Flow)(s':aA):Prop:=
 match f with
 |.next=>∃σ' H',cq X pins σ' H' s'/\D.nx σ' H'
 |.brk=>∃σ' H',cq X pins σ' H' s'/\D.bk σ' H'
 |.cont=>∃σ' H',cq X pins σ' H' s'/\D.ct σ' H'
 |.ret u=>∃v σ' H',cq X pins σ' H' s'/\ee v u/\D.rt v H'
def PE(X:Cx)(e:ck)(t:TE):Prop:=∀(pins:List (ak×Obj)) (s:aA) (σ:St) (H:Hp) (Q:VK),cq X pins σ H s->t σ H Q->bf (bI X.prog X.w) X.A (dh e X.env) (EP X pins σ Q) X.xe s
def PT(X:Cx)(e:ck)(t:TT):Prop:=∀(pins:List (ak×Obj)) (s:aA) (σ:St) (H:Hp) (Q:Bool->Hp->Prop),cq X pins σ H s->t σ H Q->bf (bI X.prog X.w) X.A (isTrue e X.env (dh e X.env)) (TP X pins σ Q) X.xe s
def PW(X:Cx)(e:ck)(t:TT):Prop:=∀(whole:Sem aq) (pins:List (ak×Obj)) (s:aA) (σ:St) (H:Hp) (Q:Bool->Hp->Prop),cq X pins σ H s->t σ H Q->bf (bI X.prog X.w) X.A (isTrue e X.env whole) (TP X pins σ Q) X.xe s
def PW.pt{X e t}(h:PW X e t):PT X e t:=h _
def PA(X:Cx)(es:List ck)(t:TA):Prop:=∀(pos:Pos) (pins:List (ak×Obj)) (s:aA) (σ:St) (H:Hp) (Q:List V->Hp->Prop),cq X pins σ H s->t σ H Q->bf (bI X.prog X.w) X.A (spliced (gU pos (aU es X.env))) (AP X pins σ Q) X.xe s
def PS(X:Cx)(st:cR)(t:TS):Prop:=∀(pins:List (ak×Obj)) (s:aA) (σ:St) (H:Hp) (D:OR),cq X pins σ H s->t D σ H->bf (bI X.prog X.w) X.A (exec st X.env) (SP X pins D) X.xe s
def N6(X:Cx)(st:List cR)(t:TS):Prop:=∀(pins:List (ak×Obj)) (s:aA) (σ:St) (H:Hp) (D:OR),cq X pins σ H s->t D σ H->bf (bI X.prog X.w) X.A (execs st X.env) (SP X pins D) X.xe s
def jk{α:Type}{t:Sem α}{Q g:α->aA->Prop}{M:Model}{A:cB}{E:aq->aA->Prop}{s:aA}(h:bf M A t Q E s)(j:∀a s,Q a s->g a s):bf M A t g E s:=kC h j λ_ _ x=>x
end L2
namespace L2
open PySem PySem.Spec PyProof.Rows
section
variable {X:Cx}
def bin{a b:ck}{ta tb:TE}(j:PE X a ta)(n:PE X b tb){pins:List (ak×Obj)}{s:aA}{σ:St}{H:Hp}{R:V->V->Hp->Prop}(I:cq X pins σ H s)(h:ta σ H λx H1=>tb σ H1 λy H2=>R x y H2)
  {α:Type}{Q:α->aA->Prop}{f:aq->aq->Sem α}
  (hf:∀v u g x y H2,cq X pins σ H2 g->ee x v->ee y u->R x y H2->bf (bI X.prog X.w) X.A (f v u) Q X.xe g) :
  bf (bI X.prog X.w) X.A (dh a X.env) (λv s₁=>bf (bI X.prog X.w) X.A (dh b X.env) (λu s₂=>bf (bI X.prog X.w) X.A (f v u) Q X.xe s₂) X.xe s₁) X.xe s:=by
 refine jk (j pins s σ H _ I h) λv q Z=>Z23 Z λx H1 z B D=>?_;refine jk (n pins q σ H1 _ z D) λu g Z=>Z23 Z λy H2 F G J=>?_;exact hf v u g x y H2 F B G J
def a0G(i:Nat):TE:=λσ H Q=>∃v,σ[i]?=Z_ (Z_ v)/\Q v H
def tC(v:V):TE:=λ_ H Q=>Q v H
def Xi{i:Nat}{x pos}(B:X.N[i]?=Z_ x)(D:SU X.env.scope x)(n:2<|(x==("__debug__":Str))=ZX)(q:2<|(x==("__classdict__":Str))=ZX):PE X (.Name x pos) (a0G i):=by
 intro pins s σ H Q I h;obtain⟨v,e,h⟩:=h;obtain⟨m,F,G⟩:=I.loc;obtain⟨u,r,l⟩:=G i x v B e D;have j:EP X pins σ Q u s:=⟨v,H,I,r,h⟩
 rcases l with⟨hk,hm⟩|⟨hk,c,z,g⟩
 .exact wpAny_Name (wpAny_loadName_local I.ok.kind hk F hm j) n
 .rcases hk with hk|hk
  .exact wpAny_Name (wpAny_loadName_cell I.ok.kind hk z g j) n
  .exact wpAny_Name (wpAny_loadName_free I.ok.kind hk z g j q) n
def T8{i j pos}:PE X (.Constant (.int i) j pos) (tC (.int i)):=λ_ _ _ H _ I h=>wpAny_Constant_int ⟨.int i,H,I.tok _,⟨_,rfl⟩,h⟩
def Zb{b j pos}:PE X (.Constant (.bool b) j pos) (tC (.bl b)):=λ_ _ _ H _ I h=>Constant_bool ⟨.bl b,H,I,rfl,h⟩
def Xj{j pos}:PE X (.Constant .none j pos) (tC .non):=λ_ _ _ H _ I h=>Constant_none ⟨.non,H,I,rfl,h⟩
def Xk{x j pos}:PE X (.Constant (.str x) j pos) (tC (.str x)):=λ_ _ _ H _ I h=>Calls.Constant_str ⟨.str x,H,I.tok _,⟨_,rfl⟩,h⟩
def Gl(X:Cx)(x:Str):Prop:=X.env.kindOf x=Z_ .globalImplicit
def GS{E pins s σ H x u pos Q}(I:cq X pins σ H s)(g:Gl X x)(hm:X.mg x=Z_ u)(h:Q u s)
  (j:2<|(x==("__debug__":Str))=ZX):bf (bI X.prog X.w) X.A (dh (.Name x pos) X.env) Q E s:=
 Calls.Name_function_global I.ok.kind g (Calls.loadGlobal_global (by rw[I.ok.glob];exact I.mod.glob.keeps I.bk) hm h) j
def Bx{E pins s σ H x u pos Q}(I:cq X pins σ H s)(g:Gl X x)(hm:X.mg x=ZZ)(j:oN x=Z_ u)(h:Q u s)
  (n:2<|x≠"__name__")(q:2<|(x==("__debug__":Str))=ZX):bf (bI X.prog X.w) X.A (dh (.Name x pos) X.env) Q E s:=by
 obtain⟨mb,h1,h2⟩:=I.mod.blt;exact Calls.Name_function_global I.ok.kind g (Calls.loadGlobal_builtin (by rw[I.ok.glob];exact I.mod.glob.keeps I.bk) hm (by rw[I.ok.blt];exact h1.keeps I.bk) ((h2 x n).trans j) h) q
def Qi{x v u pos}(g:Gl X x)(hm:X.mg x=Z_ u)(r:ee v u)(j:2<|(x==("__debug__":Str))=ZX):PE X (.Name x pos) (tC v):=λ_ _ _ H _ I h=>GS I g hm ⟨v,H,I,r,h⟩ j
variable {a b:ck} {ta tb:TE} {pos:Pos}
def PC(X:Cx)(g:CmpOp)(a b:ck)(t:TE):Prop:=
 ∀(pins:List (ak×Obj)) (s:aA) (σ:St) (H:Hp) (Q:VK),cq X pins σ H s->t σ H Q ->
  bf (bI X.prog X.w) X.A (dh a X.env) (λv s₁=>bf (bI X.prog X.w) X.A (dh b X.env) (λu s₂=>bf (bI X.prog X.w) X.A (fo g v u) (EP X pins σ Q) X.xe s₂) X.xe s₁) X.xe s
def N9(b:ck){g}(h:g≠.In)(h2:g≠.NotIn):ma g b=ZX:=by
 have j:(g==CmpOp.In)=ZX:=by cases g<;>first|rfl|exact absurd rfl h
 have n:(g==CmpOp.NotIn)=ZX:=by cases g<;>first|rfl|exact absurd rfl h2
 cases b<;>simp[ma,j,n]
def a0H(ta:TE):TE:=λσ H Q=>ta σ H λx H1=>Q (.bl (decide (x=.non))) H1
def Zc(ta:TE):TE:=λσ H Q=>ta σ H λx H1=>Q (.bl (!decide (x=.non))) H1
def ee.a4l{x v}(r:ee x v):(v==eG)=decide (x=.non):=by
 cases x with
 |non=>cases r;rfl
 |bl _=>cases r;rfl
 |int _=>obtain⟨t,rfl⟩:=r;rfl
 |str _=>obtain⟨t,rfl⟩:=r;rfl
 |byt _=>obtain⟨t,rfl⟩:=r;rfl
 |flt _=>obtain⟨t,rfl⟩:=r;rfl
 |ref _=>cases r;rfl
 |ty _=>cases r;rfl
def Xl{j pos'}(g:PE X a ta):PC X .Is a (.Constant .none j pos') (a0H ta):=by intro pins s σ H Q I h;refine jk (g pins s σ H _ I h) λv s1 Z=>Z23 Z λx H1 n q z=>?_;exact Constant_none (is_none_gen ⟨.bl _,H1,n,by rw[q.a4l];rfl,z⟩)
def Qj{j pos'}(g:PE X a ta):PC X .IsNot a (.Constant .none j pos') (Zc ta):=by intro pins s σ H Q I h;refine jk (g pins s σ H _ I h) λv s1 Z=>Z23 Z λx H1 n q z=>?_;exact Constant_none (isnot_none_gen ⟨.bl _,H1,n,by rw[q.a4l];rfl,z⟩)
def tB(t:TE):TT:=λσ H Q=>t σ H λx H1=>∃c,x=.bl c/\Q c H1
def Xm{g t}(h:PC X g a b t)(h1:9<|ma g b=ZX):PE X (.Compare a [g] [b] pos) t:=λpins s σ H Q I hw=>wpAny_Compare1 (h pins s σ H Q I hw) h1
def T9{g:CmpOp}{t:TE}(h:PC X g a b t)(h1:9<|ma g b=ZX):PT X (.Compare a [g] [b] pos) (tB t):=by intro pins s σ H Q I hw;refine wpAny_isTrue_Compare1 (jk (h pins s σ H _ I hw) λv s1 h1=>jk h1 λu s2 h2=>jk h2 λc s3 Z=>Z23 Z λx H1 j n z=>?_) h1;obtain⟨d,rfl,q⟩:=z;cases n;exact mM ⟨H1,j,q⟩
def Xn{e:ck}{t:TE}(h:PE X e t)(he:3<|∀whole,isTrue e X.env whole=(do let v <-whole;standAt e.pos;As [v] (truthy v))):PT X e (tB t):=by intro pins s σ H Q I hw;refine isTrue_plain (jk (h pins s σ H _ I hw) λv s1 ⟨x,H1,g,j,n⟩=>?_) (he _);obtain⟨d,rfl,q⟩:=n;cases j;exact mM ⟨H1,g,q⟩
variable {tA tB':TT} {rest:List ck}
def a0I(t u:TT):TT:=λσ H Q=>t σ H λc H1=>if c=ZY then u σ H1 Q else Q ZX H1
def tOr(t u:TT):TT:=λσ H Q=>t σ H λc H1=>if c=ZY then Q ZY H1 else u σ H1 Q
def a0J(t:TT):TT:=λσ H Q=>t σ H λc H1=>Q (!c) H1
def Vx(g:PT X a tA):PW X (.BoolOp .And [a] pos) tA:=by
 intro wh pins s σ H Q I h;refine isTrue_and (jk (g pins s σ H Q I h) λc s1 e=>?_);cases c with
 |true=>exact isTrue_and_nil e
 |false=>exact e
def Xo(g:PT X a tA):PW X (.BoolOp .Or [a] pos) tA:=by
 intro wh pins s σ H Q I h;refine isTrue_or (jk (g pins s σ H Q I h) λc s1 e=>?_);cases c with
 |false=>exact isTrue_or_nil e
 |true=>exact e
def Xp(n:PT X a tA)(q:PW X (.BoolOp .And (b::rest) pos) tB'):PW X (.BoolOp .And (a::b::rest) pos) (a0I tA tB'):=by
 intro z pins s σ H Q I h;refine isTrue_and (jk (n pins s σ H _ I h) λc B Z=>Z12 Z λH1 g j=>?_);cases c with
 |true=>exact q z pins B σ H1 Q g j
 |false=>exact⟨H1,g,j⟩
def Zd(n:PT X a tA)(q:PW X (.BoolOp .Or (b::rest) pos) tB'):PW X (.BoolOp .Or (a::b::rest) pos) (tOr tA tB'):=by
 intro z pins s σ H Q I h;refine isTrue_or (jk (n pins s σ H _ I h) λc B Z=>Z12 Z λH1 g j=>?_);cases c with
 |true=>exact⟨H1,g,j⟩
 |false=>exact q z pins B σ H1 Q g j
def Xq(g:PT X a tA):PT X (.UnaryOp .Not a pos) (a0J tA):=by intro pins s σ H Q I h;exact isTrue_not (g pins s σ H (λc H1=>Q (!c) H1) I h)
def Ze(ta tb:TE):TE:=λσ H Q=>ta σ H λx H1=>∃c,x=.bl c/\if c=ZY then tb σ H1 Q else Q (.bl ZX) H1
def a0K(ta tb:TE):TE:=λσ H Q=>ta σ H λx H1=>∃c,x=.bl c/\if c=ZY then Q (.bl ZY) H1 else tb σ H1 Q
def Xr{g t}(h:PE X a t):PE X (.BoolOp g [a] pos) t:=λpins s σ H Q I hw=>BoolOp_one (h pins s σ H Q I hw)
def Xs(n:PE X a ta)(q:PE X (.BoolOp .And (b::rest) pos) tb):PE X (.BoolOp .And (a::b::rest) pos) (Ze ta tb):=by
 intro pins s σ H Q I h;refine BoolOp_and (jk (n pins s σ H _ I h) λv z Z=>Z23 Z λx H1 j B g=>?_);obtain⟨c,rfl,g⟩:=g;cases B;refine mM ?_;cases c with
 |true=>exact q pins z σ H1 Q j g
 |false=>exact⟨.bl ZX,H1,j,rfl,g⟩
def Zf(n:PE X a ta)(q:PE X (.BoolOp .Or (b::rest) pos) tb):PE X (.BoolOp .Or (a::b::rest) pos) (a0K ta tb):=by
 intro pins s σ H Q I h;refine BoolOp_or (jk (n pins s σ H _ I h) λv z Z=>Z23 Z λx H1 j B g=>?_);obtain⟨c,rfl,g⟩:=g;cases B;refine mM ?_;cases c with
 |false=>exact q pins z σ H1 Q j g
 |true=>exact⟨.bl ZY,H1,j,rfl,g⟩
def tIf(t:TT)(ta tb:TE):TE:=λσ H Q=>t σ H λc H1=>if c=ZY then ta σ H1 Q else tb σ H1 Q
def Ta{c:ck}(q:PT X c tA)(z:PE X a ta)(B:PE X b tb):PE X (.IfExp c a b pos) (tIf tA ta tb):=by
 intro pins s σ H Q I h;refine wpAny_IfExp (jk (q pins s σ H _ I h) λd g Z=>Z12 Z λH1 j n=>?_);cases d with
 |true=>exact z pins g σ H1 Q j n
 |false=>exact B pins g σ H1 Q j n
end
end L2
namespace L2
open PySem PySem.Spec PyProof.Rows

def ny(K:ab)(H:Hp)(a:ak)(xs:List V):Prop:=
 Rd H a (.lst xs) \/
  ∃(o:Obj) (its:Array aq) (n:Nat),K.lookup a=Z_ o/\o.cls=.type "list"/\o.dict=ZZ/\o.data=.seq its n/\its.size<=bc/\dC xs its.toList
def oQ(K:ab)(H:Hp)(a:ak)(xs:List V):Prop:=
 Rd H a (.tup xs) \/
  ∃(o:Obj) (its:Array aq) (n:Nat),K.lookup a=Z_ o/\o.cls=.type "tuple"/\o.data=.seq its n/\its.size<=bc/\dC xs its.toList
def a0L:aq->Option V
 |.none=>Z_ .non
 |.bool b=>Z_ (.bl b)
 |.int i _=>Z_ (.int i)
 |.str x _=>Z_ (.str x)
 |.bytes b _=>Z_ (.byt b)
 |.float b _=>Z_ (.flt b)
 |.ref a=>Z_ (.ref a)
 |.type n=>Z_ (.ty n)
 |_=>ZZ
def ee.abs{x u}(r:ee x u):a0L u=Z_ x:=by
 cases x with
 |non=>cases r;rfl
 |bl _=>cases r;rfl
 |int _=>obtain⟨t,rfl⟩:=r;rfl
 |str _=>obtain⟨t,rfl⟩:=r;rfl
 |byt _=>obtain⟨t,rfl⟩:=r;rfl
 |flt _=>obtain⟨t,rfl⟩:=r;rfl
 |ref _=>cases r;rfl
 |ty _=>cases r;rfl
def ee.inj{x y u}(r:ee x u)(q:ee y u):x=y:=az (r.abs.symm.trans q.abs)
def dC.inj:∀{xs ys:List V} {us:List aq},dC xs us->dC ys us->xs=ys:=by
 intro xs ys us h;induction h generalizing ys with
 |nil=>intro g;cases g;rfl
 |cons r _ j=>intro g;cases g with|cons n q=>rw[r.inj n,j q]
section
variable {X:Cx} {pins:List (ak×Obj)} {σ:St} {H:Hp} {s:aA} {a:ak} {xs ys:List V}
def ny.of{K}(h:H a=Z_ (.lst xs)):ny K H a xs:=.inl (.inl h)
def oQ.of{K}(h:H a=Z_ (.tup xs)):oQ K H a xs:=.inl (.inl h)
def cq.list(I:cq X pins σ H s)(h:ny X.K H a xs):∃its:List aq,dC xs its/\PlainL s.heap a its.toArray/\xs.length<=bc:=by
 rcases h with h|⟨o,its,n,g,j,q,B,hz,r⟩
 .obtain⟨z,its,n,r,e⟩:=h.ok I.hok;exact⟨its,r,⟨_,n,e,rfl,rfl,rfl⟩,z⟩
 .refine⟨its.toList,r,⟨o,n,I.kIn a o g,j,q,by simpa using B⟩,?_⟩;have e:=r.length;simp only[mZ]at e;lia
def cq.tuple(I:cq X pins σ H s)(h:oQ X.K H a xs):∃its:List aq,dC xs its/\IsTup s.heap a its.toArray/\xs.length<=bc:=by
 rcases h with h|⟨o,its,n,g,j,q,hz,r⟩
 .obtain⟨z,its,r,p⟩:=h.ok I.hok;exact⟨its,r,p,z⟩
 .refine⟨its.toList,r,⟨o,I.kIn a o g,j,n,by simpa using q⟩,?_⟩;have e:=r.length;simp only[mZ]at e;lia
def cq.a2H(I:cq X pins σ H s)(h:ny X.K H a xs)(h':ny X.K H a ys):xs=ys:=by
 obtain⟨its,r,⟨o,n,e,_,_,d⟩,_⟩:=I.list h;obtain⟨g,z,⟨o',n',j,_,_,q⟩,_⟩:=I.list h';rw[e]at j;cases j;rw[d]at q;injection q with d1 _
 have:its=g:=by simpa using congrArg Array.toList d1
 subst this;exact r.inj z
def cq.a3p(I:cq X pins σ H s)(h:oQ X.K H a xs)(h':oQ X.K H a ys):xs=ys:=by
 obtain⟨its,r,⟨o,e,_,n,d⟩,_⟩:=I.tuple h;obtain⟨g,z,⟨o',j,_,n',q⟩,_⟩:=I.tuple h';rw[e]at j;cases j;rw[d]at q;injection q with d1 _
 have:its=g:=by simpa using congrArg Array.toList d1
 subst this;exact r.inj z
end
abbrev Cx.a3I(X:Cx)(E:aq->aA->Prop):Cx:={X with xe:=E}
abbrev Cx.nox(X:Cx):Cx:=X.a3I λ_ _=>False
def Cx.Ok.a3I{X:Cx}(ok:X.Ok)(E:aq->aA->Prop):(X.a3I E).Ok:=⟨ok.mod,ok.kind,ok.glob,ok.blt,ok.above,ok.inj,ok.has,ok.cab,ok.hd,ok.frames,ok.stk,ok.exf,ok.bs,ok.bsz,ok.a4T,ok.a4J,ok.a3z,ok.frf⟩
def Cx.Ok.a2F{X:Cx}{E}(ok:(X.a3I E).Ok):X.Ok:=⟨ok.mod,ok.kind,ok.glob,ok.blt,ok.above,ok.inj,ok.has,ok.cab,ok.hd,ok.frames,ok.stk,ok.exf,ok.bs,ok.bsz,ok.a4T,ok.a4J,ok.a3z,ok.frf⟩
section
variable {X:Cx} {pins:List (ak×Obj)} {σ:St} {H:Hp} {s:aA} {E:aq->aA->Prop}
def cq.a3I(I:cq X pins σ H s)(E:aq->aA->Prop):cq (X.a3I E) pins σ H s:=⟨I.ok.a3I E,I.os,I.bare,I.base,I.loc,I.cell,I.free,I.a2D,I.pin,I.hok,I.len⟩
def cq.a2F(I:cq (X.a3I E) pins σ H s):cq X pins σ H s:=⟨I.ok.a2F,I.os,I.bare,I.base,I.loc,I.cell,I.free,I.a2D,I.pin,I.hok,I.len⟩
def SP.a2F{D f s'}(h:SP (X.a3I E) pins D f s'):SP X pins D f s':=by
 cases f with
 |next=>obtain⟨σ',H',I,q⟩:=h;exact⟨σ',H',I.a2F,q⟩
 |brk=>obtain⟨σ',H',I,q⟩:=h;exact⟨σ',H',I.a2F,q⟩
 |cont=>obtain⟨σ',H',I,q⟩:=h;exact⟨σ',H',I.a2F,q⟩
 |ret u=>obtain⟨v,σ',H',I,r,q⟩:=h;exact⟨v,σ',H',I.a2F,r,q⟩
def N6.nox{st t}(h:N6 X.nox st t):N6 X st t:=λpins s σ H D I hw=>kC (h pins s σ H D (I.a3I _) hw) (λ_ _ q=>q.a2F) λ_ _ z=>fY z
end
section
variable {X:Cx} {st:cR} {rest:List cR} {t u:TS} {e:ck} {te:TE} {pos:Pos}
def Zg:TS:=λD σ H=>D.nx σ H
def a0M(t u:TS):TS:=λD σ H=>t {D with nx:=u D} σ H
def Vy:N6 X [] Zg:=λ_ _ σ H _ I h=>DO ⟨σ,H,I,h⟩
def Tb(h1:PS X st t)(h2:N6 X rest u):N6 X (st::rest) (a0M t u):=by
 intro pins s σ H D I h;refine wpAny_execs_cons (jk (h1 pins s σ H {D with nx:=u D} I h) λf g q=>?_);cases f with
 |next=>obtain⟨σ',H',j,q⟩:=q;exact h2 pins g σ' H' D j q
 |ret v=>exact q
 |brk=>exact q
 |cont=>exact q
def Vz(h1:PS X st t):N6 X [st] t:=by
 intro pins s σ H D I h;refine wpAny_execs_cons (jk (h1 pins s σ H D I h) λf s1 q=>?_);cases f with
 |next=>exact DO q
 |ret v=>exact q
 |brk=>exact q
 |cont=>exact q
def cq.quiet{pins σ H s}(I:cq X pins σ H s):interactive X.env=ZX:=by simp[interactive,I.ok.kind]
def Zh(te:TE):TS:=λD σ H=>te σ H λ_ H1=>D.nx σ H1
def VA(he:PE X e te)(hs:1<|me e ZZ pos.line X.env=pure ZX):PS X (.Expr e pos) (Zh te):=by intro pins s σ H D I h;exact wpAny_Expr_any (jk (he pins s σ H _ I h) λv s1 Z=>Z23 Z λx H1 g r1 j=>⟨σ,H1,g,j⟩) I.quiet hs
def a0N(te:TE):TS:=λD σ H=>te σ H D.rt
def Xt(he:PE X e te):PS X (.Return (Z_ e) pos) (a0N te):=by intro pins s σ H D I h;exact wpAny_Return_some (jk (he pins s σ H _ I h) λv s1 Z=>Z23 Z λx H1 g j n=>⟨x,σ,H1,g,j,n⟩)
def a0O(c:TT)(t u:TS):TS:=λD σ H=>c σ H λb H1=>if b=ZY then t D σ H1 else u D σ H1
def Zi{c:ck}{a b:List cR}{tc:TT}(q:PT X c tc)(z:N6 X a t)(B:N6 X b u):PS X (.If c a b pos) (a0O tc t u):=by
 intro pins s σ H D I h;refine wpAny_If (jk (q pins s σ H _ I h) λd g Z=>Z12 Z λH1 j n=>?_);cases d with
 |true=>exact z pins g σ H1 D j n
 |false=>exact B pins g σ H1 D j n
end
abbrev TG:=V->St->Hp->(St->Hp->Prop)->Prop
abbrev Xu:=List V->St->Hp->(St->Hp->Prop)->Prop
def PG(X:Cx)(target:ck)(t:TG):Prop:=
 ∀(pins:List (ak×Obj)) (s:aA) (σ:St) (H:Hp) (v:V) (u:aq) (Q:St->Hp->Prop),cq X pins σ H s->ee v u->t v σ H Q ->
  bf (bI X.prog X.w) X.A (Ka target X.env u) (λ_ s'=>∃σ' H',cq X pins σ' H' s'/\Q σ' H') X.xe s
def a0r(X:Cx)(n:List ck)(t:Xu):Prop:=
 ∀(pins:List (ak×Obj)) (s:aA) (σ:St) (H:Hp) (g:List V) (j:List aq) (Q:St->Hp->Prop),cq X pins σ H s->dC g j->t g σ H Q ->
  bf (bI X.prog X.w) X.A (assignInOrder ((yi n X.env).map (·.2)) j) (λ_ s'=>∃σ' H',cq X pins σ' H' s'/\Q σ' H') X.xe s
abbrev Xv:=V->V->V->Hp->(Hp->Prop)->Prop
def Zj(X:Cx)(t:Xv):Prop:=
 ∀(pins:List (ak×Obj)) (s:aA) (σ:St) (H:Hp) (o i v:V) (g j u:aq) (Q:Hp->Prop),cq X pins σ H s->ee o g->ee i j->ee v u->t o i v H Q ->
  bf (bI X.prog X.w) X.A (setItem g j u) (λ_ s'=>∃H',cq X pins σ H' s'/\Q H') X.xe s
section
variable {X:Cx} {pos:Pos}
def xB(i:Nat):TG:=λv σ H Q=>Q (σ.set i (Z_ v)) H
def Qk{i:Nat}{x}(g:X.N.Nodup)(hi:X.N[i]?=Z_ x)(j:Qh X.env.scope x)(hf:5<|X.fn x=ZY\/X.env.scope.names.lookup x=Z_ .local):PG X (.Name x pos) (xB i):=by intro pins s σ H v u Q I r h;exact wpAny_assign_Name (N8 I g hi j r (λs' n=>⟨_,H,n,h⟩) hf)
def Xw:Xu:=λg σ H Q=>g=[]/\Q σ H
def Kg(t:TG)(u:Xu):Xu:=λg σ H Q=>∃v r,g=v::r/\t v σ H λσ' H'=>u r σ' H' Q
def jz:a0r X [] Xw:=by intro pins s σ H vs us Q I r h;obtain⟨e,h⟩:=h;subst e;cases r;exact assignInOrder_nil ⟨σ,H,I,h⟩
def d8{e:ck}{es:List ck}{t:TG}{u:Xu}(h1:PG X e t)(h2:a0r X es u)
  (hs:1<|(yi (e::es) X.env).map (·.2)=Ka e X.env::(yi es X.env).map (·.2)):a0r X (e::es) (Kg t u):=by
 intro pins s σ H vs us Q I r h;obtain⟨v,vr,g,h⟩:=h;subst g;cases r with
 |cons r j=>rw[hs];refine assignInOrder_cons (jk (h1 pins s σ H _ _ _ I r h) λ_ n ⟨σ1,H1,q,z⟩=>?_);exact h2 pins n σ1 H1 _ _ Q q j z
def Xx(K:ab)(n:Nat)(t:Xu):TG:=λv σ H Q=>∃a xs,v=.ref a/\oQ K H a xs/\xs.length=n/\t xs σ H Q
def lW{es}{k:Nat}{t}{n:Nat}(q:X.calm=ZY)(h:a0r X es t)
  (z:1<|(yi es X.env).length=n)(g:1<|(yi es X.env).findIdx? (·.1)=ZZ):PG X (.Tuple es k pos) (Xx X.K n t):=by
 intro pins s σ H v u Q I r hw;obtain⟨a,xs,B,D,F,hw⟩:=hw;subst B;cases r;obtain⟨its,j,G,hz⟩:=I.tuple D;refine assign_Tuple_tuple (I.ok.hd q) G (by simp[z,<-F,j.length]) g λh' J=>?_;have L:cq X pins σ H {s with heap:=h'}:=I.kept (t':=s.toks) λb o e=>J b o (b_ (b7 e)) e;exact h pins _ σ H xs _ Q L (by simpa using j) hw
def a0P(to g:TE)(t:Xv):TG:=λv σ H Q=>to σ H λo H1=>g σ H1 λi H2=>t o i v H2 λj=>Q σ j
def Xy{o i:ck}{to n:TE}{t:Xv}(q:PE X o to)(hi:PE X i n)(hs:Zj X t)
  (z:3<|∀v,Ka (.Subscript o i pos) X.env v=(do
   let g <-As [v] (dh o X.env)
   let j <-As [v,g] (dh i X.env)
   standAt pos
   As [v,g,j] (setItem g j v)
   release [v,g,j] [])):PG X (.Subscript o i pos) (a0P to n t):=by
 intro pins s σ H v u Q I r h;rw[z];refine aa (iw (jk (q pins s σ H _ I h) λg B Z=>Z23 Z λx H1 D F G=>?_));refine aa (iw (jk (hi pins B σ H1 _ D G) λj J Z=>Z23 Z λy H2 L M N=>?_));refine aa (JA (aa (iw (jk (hs pins J σ H2 x y v g j u _ L F M r N) λ_ s3 Z=>Z12 Z λO R S=>?_))));exact wpAny_release ⟨σ,O,R,S⟩
def Xz(te:TE)(g:TG):TS:=λD σ H=>te σ H λx H1=>g x σ H1 D.nx
def XA{tg e:ck}{te:TE}{g:TG}(he:PE X e te)(j:PG X tg g)(hs:1<|swapsWithSole [tg] e pos.line X.env=pure ZX)(hw:1<|swappedStores [tg] e X.env=pure ZZ)
  (h1:1<|(yi [tg] X.env).map (·.2)=[Ka tg X.env]):PS X (.Assign [tg] e pos) (Xz te g):=by
 intro pins s σ H D I h;refine wpAny_Assign_stores (jk (he pins s σ H _ I h) λv n Z=>Z23 Z λx H1 z B F=>?_) hs hw;rw[h1];exact jk (j pins n σ H1 x v _ z B F) λ_ s2 q=>q
def XB{i:Nat}{x:Str}{e:ck}{te:TE}{pos':Pos}(g:X.N.Nodup)(hi:X.N[i]?=Z_ x)(j:Qh X.env.scope x)(he:PE X e te)(hs:1<|me e (Z_ (.Name x pos')) pos.line X.env=pure ZX)(hf:5<|X.fn x=ZY\/X.env.scope.names.lookup x=Z_ .local) :
  PS X (.Assign [.Name x pos'] e pos) (Xz te (xB i)):=by
 intro pins s σ H D I h;refine wpAny_Assign_Name (jk (he pins s σ H _ I h) λv s1 Z=>Z23 Z λy H1 n q z=>?_) hs;exact N8 n g hi j q (λs2 B=>⟨_,H1,B,z⟩) hf
end
section
variable {X:Cx} {pos:Pos}
def XC(c:TT)(tb:TS):TS:=λD σ H=>∃W:Nat->St->Hp->Prop,(∃m,W m σ H)/\∀m σ H,W m σ H ->
 c σ H λb H1=>if b=ZY then ∃N:St->Hp->Prop,(∀σ' H',N σ' H'->∃g,g<m/\W g σ' H')/\tb {D with nx:=N,ct:=N,bk:=D.nx} σ H1 else D.nx σ H1
def Tc{c:ck}{body:List cR}{tc:TT}{tb:TS}(J:Hq (bI X.prog X.w) X.A X.env X.xe)(O:PT X c tc)(R:N6 X body tb):PS X (.While c body [] pos) (XC tc tb):=by
 intro pins s σ H D I h;obtain⟨W,⟨S,U⟩,turn⟩:=h;refine wpAny_While (codeAny_whileLoop (λn s'=>∃σ' H',cq X pins σ' H' s'/\W n σ' H') ?_ S ⟨σ,H,I,U⟩);rintro n Y ⟨σ1,H1,Z,w1⟩;refine m8 J (jk (O pins Y σ1 H1 _ Z (turn n σ1 H1 w1)) λb s2 V=>Z12 V λH2 L j=>?_);cases b with
 |true=>
  obtain⟨N,M,j⟩:=j;rw[i0p rfl];refine m8 J (jk (R pins s2 σ1 H2 _ L j) λf s3 q=>?_);cases f with
  |next=>obtain⟨σ3,g,z,B⟩:=q;obtain⟨F,hm,G⟩:=M σ3 g B;exact⟨F,hm,σ3,g,z,G⟩
  |cont=>obtain⟨σ3,g,z,B⟩:=q;obtain⟨F,hm,G⟩:=M σ3 g B;exact⟨F,hm,σ3,g,z,G⟩
  |brk=>exact q
  |ret v=>exact q
 |false=>rw[i0n aB];exact DO ⟨σ1,H2,L,j⟩
end
structure It where
 go:Nat->Hp->Prop
 yld:Nat->Hp->V->Hp->Prop
 stop:Nat->Hp->Prop
def Cq(X:Cx)(pins:List (ak×Obj))(H:Hp)(b:ak):Prop:=H b=ZZ/\b≠X.env.locals/\b∉X.fs/\(b∈X.ex\/X.s_0.heap.objs.size<=b)/\(∀x c,X.env.cells.lookup x=Z_ c->c≠b)/\∀p∈X.pn++pins,p.1≠b
def cq.a4M{X pins σ H H'}{s:aA}{b}(I:cq X pins σ H s)(g:s.heap.objs.size<=b)(j:H' b=ZZ):Cq X pins H' b:=by
 refine⟨j,m_ (bV I.lt g),I.a5A g,.inr (c6 I.sz g),λx c e z=>?_,λp n z=>?_⟩
 .obtain⟨v,q⟩:=I.cell x c e;exact absurd (bV q.lt (by rwa[z])) (gC _)
 .exact absurd (bV (b7 (I.pin p n).1) (by rwa[z])) (gC _)
structure Gb(P:bF)(w:cD)(K:ab)(tg:ck)(J:It)(fp:List ak)(it:ak)(tn:Nat->cQ->Prop):Prop where
 mem:it∈fp
 obj:∀i h,tn i h->∀b∈fp,∃o,h.get? b=Z_ o/\∀v,o.data≠.cell v
 keep:∀i h h',tn i h->(∀b∈fp,∀o,h.get? b=Z_ o->h'.get? b=Z_ o)->tn i h'
 item:∀(X:Cx),X.prog=P->X.w=w->X.K=K->X.calm=ZY->∀(i:Nat) (pins:List (ak×Obj)) (s:aA) (σ:St) (H:Hp) (E:aq->aA->Prop),cq X pins σ H s->(∀b∈fp,Cq X pins H b)->tn i s.heap->J.go i H ->
  bf (bI P w) X.A (qy (.ref it)) (λr s1=>∃u,r=Z_ u /\
   bf (bI P w) X.A (DP tg (.ref it) u) (λ_ s2=>∃x H',cq X pins σ H' s2/\ee x u/\J.yld i H x H'/\tn (i+1) s2.heap/\∀b∈fp,H' b=ZZ) E s1) E s
 done:∀(X:Cx),X.prog=P->X.w=w->X.K=K->X.calm=ZY->∀(i:Nat) (pins:List (ak×Obj)) (s:aA) (σ:St) (H:Hp) (E:aq->aA->Prop),cq X pins σ H s->(∀b∈fp,Cq X pins H b)->tn i s.heap->J.stop i H ->
  bf (bI P w) X.A (qy (.ref it)) (λr s1=>r=ZZ/\cq X pins σ H s1) E s
 self:∀(A:cB) (i:Nat) (s:aA) (Q:aq->aA->Prop) (E:aq->aA->Prop),tn i s.heap->Q (.ref it) s->bf (bI P w) A (pyIter (.ref it)) Q E s
abbrev TI:=St->Hp->(It->Hp->Prop)->Prop
def a0s(X:Cx)(pins:List (ak×Obj))(σ:St)(tg:ck)(R:It->Hp->Prop)(g:aq)(j:aA):Prop:=∃(n:ak) (q:List ak) (z:Nat->cQ->Prop) (J:It) (H':Hp),g=.ref n/\cq X pins σ H' j/\Gb X.prog X.w X.K tg J q n z/\z 0 j.heap/\(∀b∈q,Cq X pins H' b)/\R J H'
def PI(X:Cx)(tg iter:ck)(g:TI):Prop:=
 ∀(pins:List (ak×Obj)) (s:aA) (σ:St) (H:Hp) (R:It->Hp->Prop),cq X pins σ H s->g σ H R ->
  bf (bI X.prog X.w) X.A (dh iter X.env) (λv j=>bf (bI X.prog X.w) X.A (pyIter v) (a0s X pins σ tg R) X.xe j) X.xe s
def Kh{M A E}{s:aA}{tg j u}{o:Obj}{n vs Q}(q:s.heap.get? j=Z_ o)(z:o.cls=.type n)(B:o.data=.fields vs)
  (D:["enumerate", "zip", "dict_itemiterator", "dict_reverseitemiterator", "odict_iterator", "itertools.zip_longest", "itertools.pairwise"].contains n=ZX)(g:Q () s):bf M A (DP tg (.ref j) u) Q E s:=by
 unfold DP;cases tg<;>first
  |exact aD g
  |(cases u<;>first
    |exact aD g
    |(refine aa (wpAny_load q ?_);rw[z,B];show bf M A (if (["enumerate", "zip", "dict_itemiterator", "dict_reverseitemiterator", "odict_iterator", "itertools.zip_longest", "itertools.pairwise"].contains n&&vs[0]?==Z_ (mx _))=ZY then _ else _) Q E s;rw[i0n (by intro h;rw[D,Bool.false_and]at h;cases h)];exact aD g))
def a0t(K:ab)(a:ak):It:=⟨λi H=>∃xs x,ny K H a xs/\xs[i]?=Z_ x,λi H x H'=>H'=H/\∀xs,ny K H a xs->xs[i]?=Z_ x,λi H=>∃xs,ny K H a xs/\xs.length<=i⟩
def a0Q(K:ab)(a:ak):It:=⟨λi H=>∃xs x,oQ K H a xs/\xs[i]?=Z_ x,λi H x H'=>H'=H/\∀xs,oQ K H a xs->xs[i]?=Z_ x,λi H=>∃xs,oQ K H a xs/\xs.length<=i⟩
def Zk(lo:Int)(n:Nat):It:=⟨λi _=>i<n,λi H x H'=>H'=H/\x=.int (lo+i),λi _=>n<=i⟩
def Rr{P w K tg}(a g:ak):Gb P w K tg (a0t K a) [g] g (λi h=>h.IsListIter g a i) where
 mem:=by simp
 obj:=λi h st b j=>by
  have e:b=g:=by simpa using j
  subst e;obtain⟨o,e,c,d⟩:=st;exact⟨o,e,λv z=>by rw[d]at z;cases z⟩
 keep:=λi h h' st k=>st.at λo e=>k g (by simp) o e
 item:=by intro X D hw F U i pins s σ H E I q st G;subst D hw F;obtain⟨xs,x,B,J⟩:=G;obtain⟨its,L,p,W⟩:=I.list B;obtain⟨u,Y,Z⟩:=L.get J;obtain⟨M,N,f2,O,R,S⟩:=q g (by simp);refine wpAny_pyNext_list_item st p.isList (x:=u) (by simpa using Y) λh' n sb=>?_;have I1:cq X pins σ H {s with heap:=h'}:=I.turned (t':=s.toks) (λb o j e=>(sb.2 b j).trans e) M N O R S;obtain⟨o,e,c,d⟩:=id n;exact⟨u,rfl,Kh (s:={s with heap:=h'}) e c d (by decide) ⟨x,H,I1,Z,⟨rfl,λys hy=>by rwa[I.a2H hy B]⟩,n,λb j=>(q b j).1⟩⟩
 done:=by intro X D hw F U i pins s σ H E I q st G;subst D hw F;obtain⟨xs,B,J⟩:=G;obtain⟨its,L,p,W⟩:=I.list B;obtain⟨M,N,f2,O,R,S⟩:=q g (by simp);have hl:=L.length;exact wpAny_pyNext_list_end (I.ok.hd U) st p.isList (by simp;lia) λh' eb=>⟨rfl,I.turned (t':=s.toks) (λb o j e=>eb b o j e) M N O R S⟩
 self:=λ_ _ _ _ _ st h=>wpAny_pyIter_listiter st h
def OS{P w K tg}(a g:ak):Gb P w K tg (a0Q K a) [g] g (λi h=>h.IsTupleIter g a i) where
 mem:=by simp
 obj:=λi h st b j=>by
  have e:b=g:=by simpa using j
  subst e;obtain⟨o,e,c,d⟩:=st;exact⟨o,e,λv z=>by rw[d]at z;cases z⟩
 keep:=λi h h' st k=>st.at λo e=>k g (by simp) o e
 item:=by intro X D hw F U i pins s σ H E I q st G;subst D hw F;obtain⟨xs,x,B,J⟩:=G;obtain⟨its,L,p,W⟩:=I.tuple B;obtain⟨u,Y,Z⟩:=L.get J;obtain⟨M,N,f2,O,R,S⟩:=q g (by simp);refine wpAny_pyNext_tuple_item st (show s.heap.IsTuple a its.toArray from p) (x:=u) (by simpa using Y) λh' n sb=>?_;have I1:cq X pins σ H {s with heap:=h'}:=I.turned (t':=s.toks) (λb o j e=>(sb.2 b j).trans e) M N O R S;obtain⟨o,e,c,d⟩:=id n;exact⟨u,rfl,Kh (s:={s with heap:=h'}) e c d (by decide) ⟨x,H,I1,Z,⟨rfl,λys hy=>by rwa[I.a3p hy B]⟩,n,λb j=>(q b j).1⟩⟩
 done:=by intro X D hw F U i pins s σ H E I q st G;subst D hw F;obtain⟨xs,B,J⟩:=G;obtain⟨its,L,p,W⟩:=I.tuple B;obtain⟨M,N,f2,O,R,S⟩:=q g (by simp);have hl:=L.length;exact wpAny_pyNext_tuple_end (I.ok.hd U) st (show s.heap.IsTuple a its.toArray from p) (by simp;lia) λh' eb=>⟨rfl,I.turned (t':=s.toks) (λb o j e=>eb b o j e) M N O R S⟩
 self:=λ_ _ _ _ _ st h=>wpAny_pyIter_tupleiter st h
def OT{P w K tg}(g:ak)(lo:Int)(n:Nat):Gb P w K tg (Zk lo n) [g] g (λi h=>IsRangeIter h g (lo+(i:Nat)*1) ((n:Int)-(i:Nat)) 1) where
 mem:=by simp
 obj:=λi h st b j=>by
  have e:b=g:=by simpa using j
  subst e;exact⟨_,st,λv z=>by have U:Data.fields _=Data.cell v:=z;cases U⟩
 keep:=λi h h' st k=>k g (by simp) _ st
 item:=by intro X D hw F G i pins s σ H E I B st J;subst D hw F;obtain⟨L,M,Y,N,O,R⟩:=B g (by simp);have W:=Walks.range (prog:=X.prog) (w:=X.w) (I.ok.hd G) g lo 1 n;refine W.item i s _ _ J st λv h' S Z q kk=>?_;obtain⟨t,rfl⟩:=Z;have I1:cq X pins σ H {s with heap:=h',toks:=S}:=I.turned (λb o j e=>kk b o (by simpa using j) e) L M N O R;refine⟨_,rfl,Kh (s:={s with heap:=h',toks:=S}) (n:="range_iterator") q rfl rfl (by decide) ⟨.int (lo+i),H,I1,⟨t,?_⟩,⟨rfl,rfl⟩,q,λb j=>(B b j).1⟩⟩;rw[Int.mul_one]
 done:=by intro X D hw F G i pins s σ H E I B st J;subst D hw F;obtain⟨L,M,Y,N,O,R⟩:=B g (by simp);exact wpAny_pyNext_range_end (I.ok.hd G) st (by have:n<=i:=J;lia) λh' eb=>⟨rfl,I.turned (t':=s.toks) (λb o j e=>eb b o j e) L M N O R⟩
 self:=λ_ _ _ _ _ st h=>wpAny_pyIter_rangeiter st h
end L2
namespace L2
open PySem PySem.Spec PyProof.Rows
section
variable {X:Cx} {tg:ck}
def Na{pins σ H}{s:aA}{R E}{lo hi:Int}{t u v}{tk:Nat}(I:cq X pins σ H s)(h1:-(2 ^ 62)<=lo)(h2:lo<2 ^ 62)(j:-(2 ^ 62)<=hi)(n:hi<2 ^ 62)
  (q:R (Zk lo (hi-lo).toNat) H):bf (bI X.prog X.w) X.A (pyIter (.ref s.heap.objs.size)) (a0s X pins σ tg R) E {s with heap:=s.heap.push {cls:=.type "range",data:=.fields #[.int lo t,.int hi u,.int 1 v]},toks:=tk}:=by
 refine wpAny_pyIter_range (IsRange.new ..) (small_one h1 h2 j n) ?_;have g:cq X pins σ H {s with heap:=s.heap.push {cls:=.type "range",data:=.fields #[.int lo t,.int hi u,.int 1 v]},toks:=tk}:=I.kept λb o e=>aE _ e;refine⟨(s.heap.push {cls:=.type "range",data:=.fields #[.int lo t,.int hi u,.int 1 v]}).objs.size,[(s.heap.push {cls:=.type "range",data:=.fields #[.int lo t,.int hi u,.int 1 v]}).objs.size],_,_,H,rfl,
  g.kept (t':=tk) λb o e=>aE _ e,OT _ lo (hi-lo).toNat,?_,λb z=>?_,q⟩
 .have B:lo+((0:Nat):Int)*1=lo:=by simp
  have D:(((hi-lo).toNat:Nat):Int)-((0:Nat):Int)=jo lo hi 1:=by rw[rangeSize_one];split<;>lia
  show IsRangeIter _ _ (lo+((0:Nat):Int)*1) ((((hi-lo).toNat:Nat):Int)-((0:Nat):Int)) 1;rw[B,D];exact b8 _ rfl
 .have e:b=(s.heap.push {cls:=.type "range",data:=.fields #[.int lo t,.int hi u,.int 1 v]}).objs.size:=by simpa using z
  subst e;exact g.a4M (aN _) (g.hok.fresh (aN _))
def Zl(ta:TA):TI:=λσ H R=>ta σ H λg H1=>∃j:Int,g=[.int j]/\-(2 ^ 62)<=j/\j<2 ^ 62/\R (Zk 0 j.toNat) H1
def Zm(ta:TA):TI:=λσ H R=>ta σ H λg H1=>∃i j:Int,g=[.int i,.int j]/\(-(2 ^ 62)<=i/\i<2 ^ 62/\-(2 ^ 62)<=j/\j<2 ^ 62)/\R (Zk i (j-i).toNat) H1
def Rt{a:ck}{ta:TA}{p pos:Pos}(n:Gl X "range")(hm:X.mg "range"=ZZ)(z:PA X [a] ta)(hs:1<|aU [a] X.env=[(ZX,dh a X.env)]):PI X tg (.Call (.Name "range" p) [a] [] pos) (Zl ta):=by
 intro pins s σ H R I h;refine Call_ (Bx I n hm boot_range (fR (jk (z pos pins s σ H _ I h) λus s1 Z=>Z23 Z λvs H1 B D g=>?_) hs rfl));obtain⟨j,e,g,F,q⟩:=g;subst e;cases D with
 |cons r G=>cases G;obtain⟨t,rfl⟩:=r;exact call_range_1 (Na B (by lia) (by lia) g F (by simpa using q))
def Ru{a b:ck}{ta:TA}{p pos:Pos}(B:Gl X "range")(hm:X.mg "range"=ZZ)(D:PA X [a,b] ta)(hs:1<|aU [a,b] X.env=[(ZX,dh a X.env),(ZX,dh b X.env)])(g:1<|aU [b] X.env=[(ZX,dh b X.env)]) :
  PI X tg (.Call (.Name "range" p) [a,b] [] pos) (Zm ta):=by
 intro pins s σ H R I h;refine Call_ (Bx I B hm boot_range (fR (jk (D pos pins s σ H _ I h) λus s1 Z=>Z23 Z λvs H1 F G n=>?_) (by rw[hs,g]) (by rw[g];rfl)));obtain⟨i,j,e,⟨n,J,L,M⟩,q⟩:=n;subst e;cases G with
 |cons r z=>
  cases z with
  |cons N z=>cases z;obtain⟨t,rfl⟩:=r;obtain⟨t',rfl⟩:=N;exact call_range_2 (Na F n J L M q)
def a0R(n:TI)(g:TG)(tb:TS):TS:=λD σ H=>n σ H λJ H1=>∃W:Nat->Nat->St->Hp->Prop,(∃m,W 0 m σ H1)/\∀i m σ H,W i m σ H ->
 (J.stop i H/\D.nx σ H)\/(J.go i H/\∃N:St->Hp->Prop,(∀σ' H',N σ' H'->∃j,j<m/\W (i+1) j σ' H')/\∀x H',J.yld i H x H'->g x σ H' λσ2 H2=>tb {D with nx:=N,ct:=N,bk:=D.nx} σ2 H2)
def Hy(g:List ak)(h:cQ):List (ak×Obj):=g.filterMap λb=>(h.get? b).map λo=>(b,o)
def By{g}{h:cQ}{b o}(j:b∈g)(e:h.get? b=Z_ o):(b,o)∈Hy g h:=dz.mpr ⟨b,j,by rw[e];rfl⟩
def Rv{g}{h:cQ}{p:ak×Obj}(j:p∈Hy g h):p.1∈g/\h.get? p.1=Z_ p.2:=by
 obtain⟨b,n,e⟩:=dz.mp j;cases q:h.get? b with
 |none=>rw[q]at e;cases e
 |some o=>rw[q]at e;have z:(b,o)=p:=az e;subst z;exact⟨n,q⟩
def cq.pinned{pins σ H}{s:aA}{g}(I:cq X pins σ H s)(hf:∀b∈g,Cq X pins H b)(q:∀b∈g,∃o,s.heap.get? b=Z_ o/\∀v,o.data≠.cell v):cq X (pins++Hy g s.heap) σ H s:=
 I.a4v λp B=>(aX.mp B).elim (λz=>I.pin p (cG _ z)) λz=>by obtain⟨j,e⟩:=Rv z;obtain⟨D,F,G,_⟩:=hf p.1 j;obtain⟨o,n,d⟩:=q p.1 j;rw[e]at n;cases n;exact⟨e,D,F,G,d⟩
def cq.a3e{pins g σ H s}(I:cq X (pins++g) σ H s):cq X pins σ H s:=I.a4v λp j=>I.pin p (cG _ (b9 _ j))
def XD{iter:ck}{body:List cR}{wi:TI}{g:TG}{tb:TS}{pos:Pos}(L:Hq (bI X.prog X.w) X.A X.env X.xe)(hc:X.calm=ZY)(hi:PI X tg iter wi)(hg:PG X tg g)(j:N6 X body tb)
  (hs:3<|∀x,fc iter X.env x=pure x):PS X (.For tg iter body [] pos) (a0R wi g tb):=by
 intro pins s σ H D I h;refine wpAny_For (jk (hi pins s σ H _ I h) λv s1 h1=>jk h1 λitv s2 h2=>?_) hs;obtain⟨it,M,tn,J,H2,e,I2,T,Y,f2,W,⟨m0,w0⟩,turn⟩:=h2;subst e;have q:∀{H':Hp},(∀b∈M,H' b=ZZ)->∀b∈M,Cq X pins H' b:=λhn b j=>⟨hn b j,(f2 b j).2⟩
 refine codeAny_forLoop_any (λn s'=>∃i σ' H',cq X pins σ' H' s'/\tn i s'.heap/\(∀b∈M,H' b=ZZ)/\W i n σ' H') ?_ m0 ⟨0,σ,H2,I2,Y,λb j=>(f2 b j).1,w0⟩;rintro n s3 ⟨i,σ3,U,I3,O,R,w3⟩;rcases turn i n σ3 U w3 with⟨stop,qn⟩|⟨go,N,hN,step⟩
 .refine m8 L (jk (T.done X rfl rfl rfl hc i pins s3 σ3 U X.xe I3 (q R) O stop) λr s4 ⟨hr,I4⟩=>?_);subst hr;exact DO ⟨σ3,U,I4,qn⟩
 .refine m8 L (jk (T.item X rfl rfl rfl hc i pins s3 σ3 U X.xe I3 (q R) O go) λr s4 Z=>Z12 Z λu hr h4=>?_);subst hr;refine m8 L (jk h4 λ_ s5 Z=>Z23 Z λx H5 I5 r5 Z=>Z03 Z λy5 G fr5=>?_);have I5':=I5.pinned (q fr5) (T.obj _ _ G);refine m8 L (jk (hg _ s5 σ3 H5 x u _ I5' r5 (step x H5 y5)) λ_ s6 Z=>Z22 Z λσ6 H6 I6 q6=>?_);refine m8 L (jk (j _ s6 σ6 H6 _ I6 q6) λf s7 F=>?_);have again:∀{σ7:St} {z:Hp},cq X (pins++Hy M s5.heap) σ7 z s7->N σ7 z->∃m,m<n/\∃i σ' H',cq X pins σ' H' s7/\tn i s7.heap/\(∀b∈M,H' b=ZZ)/\W i m σ' H':=λ{σ7 z} B S=>by
   obtain⟨m',hm,w7⟩:=hN σ7 z S;refine⟨m',hm,i+1,σ7,z,B.a3e,T.keep _ _ _ G λb j o e=>(B.pin (b,o) (cG _ (cG _ (By j e)))).1,λb j=>?_,w7⟩;obtain⟨o,e,d⟩:=T.obj _ _ G b j;exact (B.pin (b,o) (cG _ (cG _ (By j e)))).2.1
  cases f with
  |next=>obtain⟨σ7,z,B,S⟩:=F;exact again B S
  |cont=>obtain⟨σ7,z,B,S⟩:=F;exact again B S
  |brk=>obtain⟨σ7,z,B,F⟩:=F;exact⟨σ7,z,B.a3e,F⟩
  |ret v=>obtain⟨x7,σ7,z,B,r7,F⟩:=F;exact⟨x7,σ7,z,B.a3e,r7,F⟩
end
end L2
namespace L2
open PySem PySem.Spec PyProof.Rows

abbrev R2:=V->V->Hp->VK->Prop
def r0(X:Cx)(f:aq->aq->Sem aq)(r:R2):Prop:=
 ∀(pins:List (ak×Obj)) (s:aA) (σ:St) (H:Hp) (x y:V) (v u:aq) (Q:VK),cq X pins σ H s->ee x v->ee y u->r x y H Q ->
  bf (bI X.prog X.w) X.A (f v u) (EP X pins σ Q) X.xe s
def a0S(X:Cx)(f:aq->Sem aq)(r:V->Hp->VK->Prop):Prop:=
 ∀(pins:List (ak×Obj)) (s:aA) (σ:St) (H:Hp) (x:V) (v:aq) (Q:VK),cq X pins σ H s->ee x v->r x H Q ->
  bf (bI X.prog X.w) X.A (f v) (EP X pins σ Q) X.xe s
def kr(X:Cx)(f:aq)(r:List V->Hp->VK->Prop):Prop:=
 ∀(pins:List (ak×Obj)) (s:aA) (σ:St) (H:Hp) (xs:List V) (g:List aq) (Q:VK),cq X pins σ H s->dC xs g->r xs H Q ->
  bf (bI X.prog X.w) X.A (Kb f g) (EP X pins σ Q) X.xe s
def a0u(r:R2)(ta tb:TE):TE:=λσ H Q=>ta σ H λx H1=>tb σ H1 λy H2=>r x y H2 Q
def tUn(r:V->Hp->VK->Prop)(ta:TE):TE:=λσ H Q=>ta σ H λx H1=>r x H1 Q
def rI(C:Int->Int->Prop)(g:Int->Int->V):R2:=λx y H Q=>∃i j,x=.int i/\y=.int j/\C i j/\Q (g i j) H
def Td(g:Int->Int->V):R2:=λx y H Q=>∃i j,x=.int i/\y=.int j/\Q (g i j) H
def rU(g:Int->V):V->Hp->VK->Prop:=λx H Q=>∃i,x=.int i/\Q (g i) H
section
variable {X:Cx} {a b c:ck} {ta tb tc:TE} {pos:Pos}
def XE(j:PE X a ta)(n:PE X b tb){pins:List (ak×Obj)}{s:aA}{σ:St}{H:Hp}{R:V->V->Hp->Prop}(I:cq X pins σ H s)
  (h:ta σ H λx H1=>tb σ H1 λy H2=>R x y H2){Q:aq->aA->Prop}{f:aq->aq->Sem aq}
  (hf:∀v u g x y H2,cq X pins σ H2 g->ee x v->ee y u->R x y H2->bf (bI X.prog X.w) X.A (f v u) Q X.xe g) :
  bf (bI X.prog X.w) X.A (dh a X.env) (λv s₁=>bf (bI X.prog X.w) X.A (dh b X.env) (λu s₂=>bf (bI X.prog X.w) X.A (f v u) Q X.xe s₂) X.xe s₁) X.xe s:=by
 refine jk (j pins s σ H _ I h) λv q ⟨x,H1,z,B,D⟩=>?_;refine jk (n pins q σ H1 _ z D) λu g ⟨y,H2,F,G,J⟩=>?_;exact hf v u g x y H2 F B G J
def Zn{g r}(j:r0 X (pL g) r)(n:PE X a ta)(z:PE X b tb):PE X (.BinOp a g b pos) (a0u r ta tb):=by intro pins s σ H Q I h;exact wpAny_BinOp (XE n z I h λv u B x y H2 D F G q=>j pins B σ H2 x y v u Q D F G q)
def Zo{g r}(j:a0S X (unaryOp g) r)(n:PE X a ta):PE X (.UnaryOp g a pos) (tUn r ta):=by intro pins s σ H Q I h;exact UnaryOp_ (jk (n pins s σ H _ I h) λv q Z=>Z23 Z λx H1 z B D=>j pins q σ H1 x v Q z B D)
def a0T{f:aq->aq->Sem aq}{C:Int->Int->Prop}{g:Int->Int->Int}
  (rule:∀(i j:Int) (t u:Tok) (s:aA) (Q:aq->aA->Prop) (E:aq->aA->Prop),C i j->Q (.int (g i j) s.toks) {s with toks:=s.toks+1}->bf (bI X.prog X.w) X.A (f (.int i t) (.int j u)) Q E s) :
  r0 X f (rI C λi j=>.int (g i j)):=by
 intro pins s σ H x y v u Q I n z h;obtain⟨i,j,rfl,rfl,B,q⟩:=h;obtain⟨t,rfl⟩:=n;obtain⟨D,rfl⟩:=z;exact rule i j t D s _ _ B ⟨.int (g i j),H,I.tok _,⟨_,rfl⟩,q⟩
def Zp{f:aq->aq->Sem aq}{g:Int->Int->Int}
  (rule:∀(i j:Int) (t u:Tok) (s:aA) (Q:aq->aA->Prop) (E:aq->aA->Prop),Q (.int (g i j) s.toks) {s with toks:=s.toks+1}->bf (bI X.prog X.w) X.A (f (.int i t) (.int j u)) Q E s) :
  r0 X f (Td λi j=>.int (g i j)):=by
 intro pins s σ H x y v u Q I n z h;obtain⟨i,j,rfl,rfl,q⟩:=h;obtain⟨t,rfl⟩:=n;obtain⟨B,rfl⟩:=z;exact rule i j t B s _ _ ⟨.int (g i j),H,I.tok _,⟨_,rfl⟩,q⟩
def VB{f:aq->aq->Sem aq}{g:Int->Int->Bool}
  (rule:∀(i j:Int) (t u:Tok) (s:aA) (Q:aq->aA->Prop) (E:aq->aA->Prop),Q (.bool (g i j)) s->bf (bI X.prog X.w) X.A (f (.int i t) (.int j u)) Q E s) :
  r0 X f (Td λi j=>.bl (g i j)):=by
 intro pins s σ H x y v u Q I n z h;obtain⟨i,j,rfl,rfl,q⟩:=h;obtain⟨t,rfl⟩:=n;obtain⟨B,rfl⟩:=z;exact rule i j t B s _ _ ⟨.bl (g i j),H,I,rfl,q⟩
def Zq(i j:Int):Prop:=0<j/\j<1073741824
def VC(i j:Int):Prop:=(-(2 ^ 64)<i/\i<2 ^ 64)\/(-(2 ^ 64)<j/\j<2 ^ 64)
def VC.ok{i j:Int}(h:VC i j):IntMulOk i j:=by
 rcases h with⟨h1,h2⟩|⟨h1,h2⟩
 .exact .of_left (intBits_le_64 h1 h2)
 .exact .of_right (intBits_le_64 h1 h2)
def XG:r0 X (pL .Add) (Td λi j=>.int (i+j)):=Zp λ_ _ _ _ _ _ _ q=>add_int q
def pd:r0 X (pL .Sub) (Td λi j=>.int (i-j)):=Zp λ_ _ _ _ _ _ _ q=>sub_int q
def XH:r0 X (pL .Mult) (rI VC λi j=>.int (i*j)):=a0T λ_ _ _ _ _ _ _ g q=>mul_int q g.ok
def VD:r0 X (pL .FloorDiv) (rI Zq λi j=>.int (i / j)):=a0T λi j _ _ _ _ _ g q=>by have h1:(0:Int)<j:=g.1;have h2:j<1073741824:=g.2;exact floordiv_int (by lia) (by rwa[Int.fdiv_eq_ediv_of_nonneg i (by lia)]) (.inl (PyProof.noPylong_small (by lia)))
def XI:r0 X (pL .Mod) (rI (λ_ j=>0<j) λi j=>.int (i%j)):=a0T λi j _ _ _ _ _ g q=>by have h1:(0:Int)<j:=g;exact mod_int' (by lia) (by rwa[Int.fmod_eq_emod_of_nonneg i (by lia)])
def unI{f:aq->Sem aq}{g:Int->Int}
  (rule:∀(i:Int) (t:Tok) (s:aA) (Q:aq->aA->Prop) (E:aq->aA->Prop),Q (.int (g i) s.toks) {s with toks:=s.toks+1}->bf (bI X.prog X.w) X.A (f (.int i t)) Q E s) :
  a0S X f (rU λi=>.int (g i)):=by
 intro pins s σ H x v Q I j h;obtain⟨i,rfl,q⟩:=h;obtain⟨t,rfl⟩:=j;exact rule i t s _ _ ⟨.int (g i),H,I.tok _,⟨_,rfl⟩,q⟩
def XJ:a0S X (unaryOp .USub) (rU λi=>.int (-i)):=unI λ_ _ _ _ _ q=>neg_int q
end
def Zr:V->V->Bool
 |.non,.non=>ZY|.non,.int _=>ZY|.int _,.non=>ZY|.non,.bl _=>ZY|.bl _,.non=>ZY|.non,.str _=>ZY|.str _,.non=>ZY
 |.int _,.int _=>ZY|.bl _,.bl _=>ZY|.str _,.str _=>ZY|.byt _,.byt _=>ZY
 |.int _,.str _=>ZY|.str _,.int _=>ZY|.bl _,.str _=>ZY|.str _,.bl _=>ZY
 |_,_=>ZX
def a1H:R2:=λx y H Q=>Zr x y=ZY/\Q (.bl (decide (x=y))) H
def a1I:R2:=λx y H Q=>Zr x y=ZY/\Q (.bl (!decide (x=y))) H
def Ql{i j:Int}:decide (V.int i=V.int j)=(i==j):=by rw[bW];simp
def Te{i j:Bool}:decide (V.bl i=V.bl j)=(i==j):=by rw[bW];simp
def Qm{i j}:decide (V.str i=V.str j)=(i==j):=by rw[bW];simp
def Qn{i j:Array UInt8}:decide (V.byt i=V.byt j)=(i.toList==j.toList):=by rw[bW];cases i;cases j;simp
section
variable {X:Cx} {a b c:ck} {ta tb tc:TE} {pos:Pos}
def fW{pins σ H s Q}{k g:Bool}(I:cq X pins σ H s)(q:Q (.bl k) H)(e:k=g):EP X pins σ Q (.bool g) s:=by subst e;exact⟨.bl k,H,I,rfl,q⟩
def Zs:r0 X (fo .Eq) a1H:=by
 intro pins s σ H x y v u Q I B g h;obtain⟨z,q⟩:=h;cases x with
 |non=>
  cases B;cases y with
  |non=>cases g;exact PySem.EqNone.eq_none_none (fW I q (by simp))
  |bl j=>cases g;exact PySem.EqNone.eq_none_bool (fW I q (by simp))
  |int j=>obtain⟨n,rfl⟩:=g;exact PySem.EqNone.eq_none_int (fW I q (by simp))
  |str j=>obtain⟨n,rfl⟩:=g;exact PySem.EqNone.eq_none_str (fW I q (by simp))
  |_=>exact absurd (show ZX=ZY from z) aB
 |bl i=>
  cases B;cases y with
  |non=>cases g;exact PySem.EqNone.eq_bool_none (fW I q (by simp))
  |bl j=>cases g;exact eq_bool (fW I q Te)
  |str j=>obtain⟨n,rfl⟩:=g;exact PySem.EqMixed.eq_bool_str (fW I q (by simp))
  |_=>exact absurd (show ZX=ZY from z) aB
 |int i=>
  obtain⟨t,rfl⟩:=B;cases y with
  |non=>cases g;exact PySem.EqNone.eq_int_none (fW I q (by simp))
  |int j=>obtain⟨n,rfl⟩:=g;exact eq_int (fW I q Ql)
  |str j=>obtain⟨n,rfl⟩:=g;exact PySem.EqMixed.eq_int_str (fW I q (by simp))
  |_=>exact absurd (show ZX=ZY from z) aB
 |str i=>
  obtain⟨t,rfl⟩:=B;cases y with
  |non=>cases g;exact PySem.EqNone.eq_str_none (fW I q (by simp))
  |bl j=>cases g;exact PySem.EqMixed.eq_str_bool (fW I q (by simp))
  |int j=>obtain⟨n,rfl⟩:=g;exact PySem.EqMixed.eq_str_int (fW I q (by simp))
  |str j=>obtain⟨n,rfl⟩:=g;exact eq_str (fW I q Qm)
  |_=>exact absurd (show ZX=ZY from z) aB
 |byt i=>
  obtain⟨t,rfl⟩:=B;cases y with
  |byt j=>obtain⟨n,rfl⟩:=g;exact PySem.W.eq_bytes (fW I q Qn)
  |_=>exact absurd (show ZX=ZY from z) aB
 |_=>cases y<;>exact absurd (show ZX=ZY from z) aB
def Zt:r0 X (fo .NotEq) a1I:=by
 intro pins s σ H x y v u Q I B g h;obtain⟨z,q⟩:=h;cases x with
 |non=>
  cases B;cases y with
  |non=>cases g;exact PySem.EqNone.ne_none_none (fW I q (by simp))
  |bl j=>cases g;exact PySem.EqNone.ne_none_bool (fW I q (by simp))
  |int j=>obtain⟨n,rfl⟩:=g;exact PySem.EqNone.ne_none_int (fW I q (by simp))
  |str j=>obtain⟨n,rfl⟩:=g;exact PySem.EqNone.ne_none_str (fW I q (by simp))
  |_=>exact absurd (show ZX=ZY from z) aB
 |bl i=>
  cases B;cases y with
  |non=>cases g;exact PySem.EqNone.ne_bool_none (fW I q (by simp))
  |bl j=>cases g;exact ne_bool (fW I q (congrArg not Te))
  |str j=>obtain⟨n,rfl⟩:=g;exact PySem.EqMixed.ne_bool_str (fW I q (by simp))
  |_=>exact absurd (show ZX=ZY from z) aB
 |int i=>
  obtain⟨t,rfl⟩:=B;cases y with
  |non=>cases g;exact PySem.EqNone.ne_int_none (fW I q (by simp))
  |int j=>obtain⟨n,rfl⟩:=g;exact ne_int (fW I q (congrArg not Ql))
  |str j=>obtain⟨n,rfl⟩:=g;exact PySem.EqMixed.ne_int_str (fW I q (by simp))
  |_=>exact absurd (show ZX=ZY from z) aB
 |str i=>
  obtain⟨t,rfl⟩:=B;cases y with
  |non=>cases g;exact PySem.EqNone.ne_str_none (fW I q (by simp))
  |bl j=>cases g;exact PySem.EqMixed.ne_str_bool (fW I q (by simp))
  |int j=>obtain⟨n,rfl⟩:=g;exact PySem.EqMixed.ne_str_int (fW I q (by simp))
  |str j=>obtain⟨n,rfl⟩:=g;exact ne_str (fW I q (congrArg not Qm))
  |_=>exact absurd (show ZX=ZY from z) aB
 |byt i=>
  obtain⟨t,rfl⟩:=B;cases y with
  |byt j=>obtain⟨n,rfl⟩:=g;exact PySem.W.ne_bytes (fW I q (congrArg not Qn))
  |_=>exact absurd (show ZX=ZY from z) aB
 |_=>cases y<;>exact absurd (show ZX=ZY from z) aB
def xC:r0 X (fo .Lt) (Td λi j=>.bl (decide (i<j))):=VB λ_ _ _ _ _ _ _ q=>lt_int q
def Tf:r0 X (fo .LtE) (Td λi j=>.bl (decide (i<=j))):=VB λ_ _ _ _ _ _ _ q=>le_int q
def Fj:r0 X (fo .Gt) (Td λi j=>.bl (decide (j<i))):=VB λ_ _ _ _ _ _ _ q=>gt_int q
def r6:r0 X (fo .GtE) (Td λi j=>.bl (decide (j<=i))):=VB λ_ _ _ _ _ _ _ q=>ge_int q
def r0.or{f r g}(h:r0 X f r)(h':r0 X f g):r0 X f (λx y H Q=>r x y H Q\/g x y H Q):=by
 intro pins s σ H x y v u Q I j n q;rcases q with q|q
 .exact h pins s σ H x y v u Q I j n q
 .exact h' pins s σ H x y v u Q I j n q
def VE{g r}(j:r0 X (fo g) r)(n:PE X a ta)(z:PE X b tb)(hm:ma g b=ZX):PE X (.Compare a [g] [b] pos) (a0u r ta tb):=by intro pins s σ H Q I h;exact wpAny_Compare1 (XE n z I h λv u B x y H2 D F G q=>j pins B σ H2 x y v u Q D F G q) hm
def Zu(t:TE):TT:=λσ H Q=>t σ H λx H'=>∃k,x=.bl k/\Q k H'
def VF{g r}(j:r0 X (fo g) r)(n:PE X a ta)(q:PE X b tb)(hm:ma g b=ZX):PT X (.Compare a [g] [b] pos) (Zu (a0u r ta tb)):=by
 intro pins s σ H Q I h;refine wpAny_isTrue_Compare1 (jk (n pins s σ H _ I h) λv B Z=>Z23 Z λx H1 D F G=>jk (q pins B σ H1 _ D G) λu J Z=>Z23 Z λy H2 L M N=>jk (j pins J σ H2 x y v u _ L F M N) λc s3 Z=>Z23 Z λz O R S Z=>Z12 Z λk e U=>?_) hm
 subst e;cases S;exact mM ⟨O,R,U⟩
def LQ:(bc:Nat)<2 ^ 63:=by rw[ko];decide
def Ki{x us}(r:dC [x] us):∃u,us=[u]/\ee x u:=by
 cases r with
 |cons g j=>cases j;exact⟨_,rfl,g⟩
def Zv{x y us}(r:dC [x,y] us):∃u g,us=[u,g]/\ee x u/\ee y g:=by
 cases r with
 |cons j n=>
  cases n with
  |cons q z=>cases z;exact⟨_,_,rfl,j,q⟩
end
end L2
namespace L2
open PySem PySem.Spec PyProof.Rows

structure Rw(h:cQ)(x dx C:ak)(mA:Str->Option aq):Prop where
 obj:h.get? x=Z_ (jj C dx)
 ns:h.Ns1 dx mA
 ne:dx≠x
nonrec def Rx{h:cQ}{dx mA}(n:h.Ns1 dx mA):∃j,h.get? dx=Z_ j/\∀name,PySem.W.lookIn name j=Z_ (mA name):=by
 obtain⟨o,es,ep,B,D,F,_,hm⟩:=n;refine⟨o,B,λname=>?_⟩;have e:=hm name;unfold nsFind findBy at e;rw[<-Array.find?_toList]at e;unfold PySem.W.lookIn;rw[D];dsimp only;split
 .rename_i y q;rw[q]at e;exact congrArg Z_ e
 .rename_i q;rw[q]at e;have a:es.toList.any (·.refKey)=ZX:=by
   rw[Hr];intro y G;obtain⟨z,t,g⟩:=F y (Array.mem_toList_iff.mp G);simp[DictEntry.refKey,g]
  have I:¬es.toList.any (·.refKey)=ZY:=by rw[a];exact aB
  rw[i0n I];exact congrArg Z_ e
def Rw.look{h x dx C mA}(I:Rw h x dx C mA):∃g,PySem.W.InstAt h x (jj C dx) C (Z_ g)/\∀name,PySem.W.lookIn name g=Z_ (mA name):=
 let ⟨g,j,n⟩:=Rx I.ns
 ⟨g,⟨I.obj,rfl,rfl,j⟩,n⟩
section
variable {prog:bF} {w:cD} {A:cB} {E:aq->aA->Prop} {s:aA} {K:ab} {x dx C f:ak} {mA:Str->Option aq} {name:Str} {v:aq}
def VG{expr:Bool}{Q:aq->aA->Prop}(X:K.In s.heap)(I:Rw s.heap x dx C mA)(j:xp K C name=ZY)(n:uZ K C=ZY)
  (q:bP K (.ref C) name=Z_ ZZ)(z:mA name=Z_ v)(g:PySem.W.handedIn v=ZY)(h:Q v {s with toks:=s.toks+1}) :
  bf (bI prog w) A (getAttr (.ref x) name expr) Q E s:=by
 obtain⟨od,J,B⟩:=I.look;exact PySem.W.get_value X J (PySem.W.plainGet_of j).1 (PySem.W.findObj_own n q rfl (by rw[B,z])) g h
def VH{ns:List Str}{Q}(X:K.In s.heap)(I:Rw s.heap x dx C mA)
  (hs:bP K (.ref C) "__setattr__"=Z_ (Z_ (.builtin "object.__setattr__")))(D:Ff K C=ZY)(F:PySem.W.takerIn K C name=Z_ ZZ)(G:uZ K C=ZY)
  (hw:GL mA ns)(hsz:ns.length<=bc)
  (h:∀h',Rw h' x dx C (λy=>if y=name then Z_ v else mA y)->jB dx s.heap h'->Q () {s with heap:=h',toks:=s.toks+2}) :
  bf (bI prog w) A (setAttr (.ref x) name v) Q E s:=by
 obtain⟨od,J,hl⟩:=I.look;refine PySem.W.set_plain X J hs (PySem.W.osa_open (s:={s with toks:=s.toks+1}) (r:=ZZ) X J D F λb=>?_);obtain⟨cd,L,n⟩:=PySem.W.any_some G;have M:s.heap.get? x=Z_ ⟨.ref C,Z_ dx,.plain,#[]⟩:=I.obj;refine aa (aD (aa (aa (wpAny_loadPart M (aa (PySem.W.Looks.here (s:={s with toks:=s.toks+1}) (PySem.W.looks_clsIn X L) ?_))))));rw[n];refine aD (a:=Z_ dx) (aa (aD (aa ?_)));refine wpAny_nsSet1 (s:={s with toks:=s.toks+1}) I.ns λh' g j=>?_;obtain⟨oD,esD,epD,q,z,B⟩:=g.count (PySem.Within.cons name v hw);refine aa (wpAny_lookBehind q (by rw[z];exact pastItsLine_dict (c6 B (by rw[aZ];lia))) ?_);exact aD (h _ ⟨(j.2 _ (aG I.ne)).trans I.obj,g,I.ne⟩ j)
def Th{R vs j}(X:K.In s.heap)(hm:PySem.W.makesIn K C=ZY)
  (hi:bP K (.ref C) "__init__"=Z_ (Z_ (.ref f)))(hf:PySem.W.typeIn K (.ref f)=Z_ (.type "function"))
  (h:Hs (bI prog w) (A.under (.builtin "type.__call__" ⟨.ref C::vs,j⟩)) (.call (.ref f) ⟨.ref (s.heap.objs.size+1)::vs,j⟩) (PySem.W.InitBack (s.heap.objs.size+1) R)
   {s with heap:=(s.heap.push gp).push (jj C s.heap.objs.size)}) :
  Hs (bI prog w) A (.call (.ref C) ⟨vs,j⟩) R s:=by
 obtain⟨hh,g,d,t,os⟩:=s;exact PySem.W.make_core (PySem.W.makes_of X hm) (PySem.W.looks_findIn X hi) (λself=>PySem.W.bind_fn X self hf) (.inl rfl) h
end
def wb(f:Str)(v:V):List (Str×V)->List (Str×V)
 |[]=>[(f,v)]
 |(g,x)::r=>if g=f then (g,v)::r else (g,x)::wb f v r
def Fk(f g:Str)(v:V):∀fs:List (Str×V),(wb f v fs).lookup g=if g=f then Z_ v else fs.lookup g
 |[]=>by
  show mf g [(f,v)]=_;by_cases h:g=f
  .have j:(g==f)=ZY:=beq_iff_eq.mpr h;simp only[mf,j,i0p h]
  .have j:(g==f)=ZX:=beq_eq_false_iff_ne.mpr h;simp only[mf,j,i0n h]
 |(k,x)::r=>by
  have q:=Fk f g v r;rw[show wb f v ((k,x)::r)=(if k=f then (k,v)::r else (k,x)::wb f v r) from rfl];by_cases n:k=f
  .rw[i0p n];by_cases h:g=k
   .have j:(g==k)=ZY:=beq_iff_eq.mpr h;simp only[mf,j,i0p (h.trans n)]
   .have j:(g==k)=ZX:=beq_eq_false_iff_ne.mpr h;simp only[mf,j,i0n (λe:g=f=>h (e.trans n.symm))]
  .rw[i0n n];by_cases h:g=k
   .have j:(g==k)=ZY:=beq_iff_eq.mpr h;simp only[mf,j,i0n (λe:g=f=>n (h.symm.trans e))]
   .have j:(g==k)=ZX:=beq_eq_false_iff_ne.mpr h;simp only[mf,j];exact q
def DV(f:Str)(v:V):∀fs:List (Str×V),f∈(wb f v fs).map (·.1)/\∀g,g∈fs.map (·.1)->g∈(wb f v fs).map (·.1)
 |[]=>⟨by simp[wb],λg h=>by simp at h⟩
 |(k,x)::r=>by
  obtain⟨n,q⟩:=DV f v r;rw[show wb f v ((k,x)::r)=(if k=f then (k,v)::r else (k,x)::wb f v r) from rfl];by_cases j:k=f
  .rw[i0p j];subst j;exact⟨by simp,λg h=>by simpa using h⟩
  .rw[i0n j];refine⟨?_,λg h=>?_⟩
   .rw[aQ];exact ba _ n
   .rw[aQ]at h ⊢;rcases aL.mp h with e|e
    .exact aL.mpr (.inl e)
    .exact ba _ (q g e)
def Fl(f:Str)(v:V):∀fs:List (Str×V),(wb f v fs).length<=fs.length+1
 |[]=>by simp[wb]
 |(k,x)::r=>by
  have ih:=Fl f v r;rw[show wb f v ((k,x)::r)=(if k=f then (k,v)::r else (k,x)::wb f v r) from rfl];by_cases g:k=f
  .rw[i0p g,aZ,aZ];lia
  .rw[i0n g,aZ,aZ];lia
def Bw.some_of{v o}(r:Bw (Z_ v) o):∃u,o=Z_ u/\ee v u:=by
 cases o with
 |none=>exact (show False from r).elim
 |some u=>exact⟨u,rfl,r⟩
def Ry{v u}(r:ee v u):PySem.W.handedIn u=ZY:=by
 cases v with
 |non=>cases (show u=eG from r);rfl
 |bl b=>cases (show u=qY b from r);rfl
 |int i=>obtain⟨t,e⟩:=(show ∃t,u=ue i t from r);cases e;rfl
 |str x=>obtain⟨t,e⟩:=(show ∃t,u=Value.str x t from r);cases e;rfl
 |byt b=>obtain⟨t,e⟩:=(show ∃t,u=Value.bytes b t from r);cases e;rfl
 |flt b=>obtain⟨t,e⟩:=(show ∃t,u=Value.float b t from r);cases e;rfl
 |ref a=>cases (show u=bp a from r);rfl
 |ty n=>cases (show u=iu n from r);rfl
section
variable {P:bF} {w:cD} {H H':Hp} {h h':cQ} {a C dx:ak} {fs fs':List (Str×V)}
def Qo(g:yd P w H h)(e:H a=Z_ (.ins C dx fs)):∃mA,Rw h a dx C mA/\(∀f,Bw (fs.lookup f) (mA f))/\GL mA (fs.map (·.1))/\fs.length<=1000/\H dx=Z_ (.own a):=by
 obtain⟨d,z,ne,j,mA,n,r,q⟩:=(show iz P w H h a (.ins C dx fs) from g a _ e)
 exact⟨mA,⟨j,n,ne⟩,r,q,z,d⟩
end
structure XM(K:ab)(C:ak):Prop where
 pg:xp K C Str.empty=ZY
 hd:uZ K C=ZY
 po:Ff K C=ZY
 sa:bP K (.ref C) "__setattr__"=Z_ (Z_ (.builtin "object.__setattr__"))
def XM.get{K C}(c:XM K C)(f:Str):xp K C f=ZY:=c.pg
def wc(K:ab)(C:ak)(f:Str):Prop:=bP K (.ref C) f=Z_ ZZ
def wc.a5u{K C f}(n:wc K C f):PySem.W.takerIn K C f=Z_ ZZ:=by unfold PySem.W.takerIn;rw[show bP K (.ref C) f=Z_ ZZ from n];rfl
section
variable {X:Cx} {pins:List (ak×Obj)} {σ:St} {H:Hp} {s:aA} {a C dx:ak} {fs:List (Str×V)} {f:Str} {v:V} {A:cB} {E:aq->aA->Prop}
def OU{b:Bool}{Q}(I:cq X pins σ H s)(e:H a=Z_ (.ins C dx fs))(c:XM X.K C)(n:wc X.K C f)(l:fs.lookup f=Z_ v)
  (h:∀u s',cq X pins σ H s'->ee v u->Q u s'):bf (bI X.prog X.w) A (getAttr (.ref a) f b) Q E s:=by
 obtain⟨mA,O,r,_,_,_⟩:=Qo I.hok e;obtain⟨u,j,g⟩:=Bw.some_of (v:=v) (o:=mA f) (by rw[<-l];exact r f);exact VG I.kIn O (c.get f) c.hd n j (Ry g) (h u _ (I.tok _) g)
def OV{y u Q}(I:cq X pins σ H s)(e:H a=Z_ (.ins C dx fs))(c:XM X.K C)(n:wc X.K C f)(hl:fs.length<1000)(F:ee y u)
  (h:∀s',cq X pins σ (gw H a (.ins C dx (wb f y fs))) s'->Q () s'):bf (bI X.prog X.w) A (setAttr (.ref a) f u) Q E s:=by
 obtain⟨mA,O,r,B,_,D⟩:=Qo I.hok e;have G:(fs.map (·.1)).length<=bc:=by rw[ah,ko];lia
 refine VH I.kIn O c.sa c.po n.a5u c.hd B G λh' j J=>h _ ?_;have L:∃o,h'.get? dx=Z_ o:=let ⟨o,_,_,M,_⟩:=j.ns;⟨o,M⟩
 refine I.write (x:=a) (e:=dx) (by rw[e];exact rk) (.inr D) (λb q N z=>(J.2 b N).trans z) L ?_;refine⟨by rw[dy O.ne];exact D,?_,O.ne,j.obj,_,j.ns,λg=>?_,λg R=>?_⟩
 .have:=Fl f y fs;lia
 .show Bw ((wb f y fs).lookup g) (if g=f then Z_ u else mA g);rw[Fk];by_cases q:g=f
  .rwa[i0p q,i0p q]
  .rw[i0n q,i0n q];exact r g
 .by_cases q:g=f
  .rw[q];exact (DV f y fs).1
  .refine (DV f y fs).2 g (B g λz=>R ?_);show (if g=f then Z_ u else mA g)=ZZ;rwa[i0n q]
def cq.made(I:cq X pins σ H s):cq X pins σ (gw (gw H s.heap.objs.size (.own (s.heap.objs.size+1))) (s.heap.objs.size+1) (.ins C s.heap.objs.size []))
  {s with heap:=(s.heap.push gp).push (jj C s.heap.objs.size)}:=by
 have g:(s.heap.push gp).get? s.heap.objs.size=Z_ gp:=b8 s.heap rfl;have j:((s.heap.push gp).push (jj C s.heap.objs.size)).get? (s.heap.objs.size+1)=Z_ (jj C s.heap.objs.size):=by
  have:=b8 (s.heap.push gp) (o:=jj C s.heap.objs.size) rfl
  rwa [cU]at this
 have n:(s.heap.push gp).Ns s.heap.objs.size (λ_=>ZZ):=⟨gp,#[],_,g,rfl,(λe z=>absurd z (by simp)),λ_=>rfl⟩
 have B:=I.laid (a:=s.heap.objs.size) (o:=.own (s.heap.objs.size+1)) (h':=s.heap.push gp) (t':=s.toks) (λb u q=>aE _ q) (aN _) ⟨_,g⟩;refine B.laid (a:=s.heap.objs.size+1) (o:=.ins C s.heap.objs.size []) (t':=s.toks) (λb u q=>aE _ q) (AU (cU _ _)) ?_;have ne:s.heap.objs.size≠s.heap.objs.size+1:=b_ (rL _);refine⟨by rw[dy ne,eT],gj _,ne,j,λ_=>ZZ,(Heap.Ns1.of_empty n).at λo q=>aE _ q,λ_=>rk,λy D=>absurd rfl D⟩
def VI{prog w env e f pos s Q}(g:g6 e f env (dh e env)=dh e env)
  (h:bf (bI prog w) A (dh e env) (λo s₁=>bf (bI prog w) A (getAttr o f ZY) Q E s₁) E s):bf (bI prog w) A (dh (.Attribute e f pos) env) Q E s:=
 Attribute_any_ h (by rw[arm_eval_Attribute,g])
end
def a0U(K:ab)(ta:TE)(f:Str):TE:=λσ H Q=>ta σ H λx H1=>∃a C dx fs v,x=.ref a/\H1 a=Z_ (.ins C dx fs)/\XM K C/\wc K C f/\fs.lookup f=Z_ v/\Q v H1
def a0V(K:ab)(ta tv:TE)(f:Str):TS:=λD σ H=>tv σ H λy H1=>ta σ H1 λx H2=>∃a C dx fs,x=.ref a/\H2 a=Z_ (.ins C dx fs)/\XM K C/\wc K C f/\fs.length<1000 /\
 D.nx σ (gw H2 a (.ins C dx (wb f y fs)))
section
variable {X:Cx} {o e value:ck} {f:Str} {pos pos' tpos:Pos} {ta tv:TE}
def XN(he:PE X e ta)(g:g6 e f X.env (dh e X.env)=dh e X.env):PE X (.Attribute e f pos) (a0U X.K ta f):=by intro pins s σ H Q I h;refine VI g (jk (he pins s σ H _ I h) λu s1 z=>?_);obtain⟨x,H1,j,B,z⟩:=z;obtain⟨a,C,dx,fs,v,ex,D,c,n,l,q⟩:=z;subst ex;obtain rfl:u=bp a:=B;exact OU j D c n l λu' s2 F G=>⟨v,H1,F,G,q⟩
def XO(g:PE X o ta)(j:PE X value tv)(hs:me value (Z_ (.Attribute o f pos')) pos.line X.env=pure ZX):PS X (.Assign [.Attribute o f pos'] value pos) (a0V X.K ta tv f):=by intro pins s σ H D I h;refine plainObj_wpAny_Assign_Attribute (jk (j pins s σ H _ I h) λu B Z=>Z23 Z λy H1 F G q=>jk (g pins B σ H1 _ F q) λJ s2 z=>?_) hs;obtain⟨x,H2,L,M,z⟩:=z;obtain⟨a,C,dx,fs,ex,N,c,n,l,O⟩:=z;subst ex;obtain rfl:J=bp a:=M;exact OV L N c n l G λs3 R=>⟨σ,_,R,O⟩
end
end L2
namespace L2
open PySem PySem.Spec PyProof.Rows

structure jw(k:Nat)(A:cB):Prop where
 hd:A.handled=ZZ
 dp:A.depth+3*k+5<recursionLimit
 un:A.units+16*k+200<gv
def jw.mono{j k:Nat}{A}(r:jw k A)(h:j<=k):jw j A:=⟨r.hd,by have:=r.dp;lia,by have:=r.un;lia⟩
def jw.deeper{k:Nat}{A:cB}(r:jw (k+1) A)(env:Env):jw k (A.deeper env):=⟨r.hd,by have:=r.dp;show A.depth+1+3*k+5<_;lia,by have:=r.un;show A.units+3+16*k+200<_;lia⟩
def OW{A:cB}{C us g}:(A.under (.builtin "type.__call__" ⟨.ref C::us,g⟩)).depth=A.depth+1:=by first|rfl|simp[Around.under,Code.weight,Code.isCreation,Code.isGuard,Code.isCaller,Code.frames,Code.isFrame,guardIds]
def OX{A:cB}{C us g}:(A.under (.builtin "type.__call__" ⟨.ref C::us,g⟩)).units=A.units+1:=by first|rfl|simp[Around.under,Code.cUnits,Code.frames,Code.isFrame]
def jw.make{k:Nat}{A:cB}(r:jw (k+1) A)(C:ak)(us:List aq)(g:List (Str×aq)):jw k (A.under (.builtin "type.__call__" ⟨.ref C::us,g⟩)):=⟨r.hd,by have:=r.dp;rw[OW];lia,by have:=r.un;rw[OX];lia⟩
def jw.depth{k:Nat}{A:cB}(r:jw k A):A.depth<recursionLimit:=by have:=r.dp;lia
def jw.units{k:Nat}{A:cB}(r:jw k A):A.units+64<gv:=by have:=r.un;lia
def Zw:TA:=λ_ H Q=>Q [] H
def Zx(ta:TE)(g:TA):TA:=λσ H Q=>ta σ H λx H1=>g σ H1 λxs H2=>Q (x::xs) H2
section
variable {X:Cx} {e:ck} {es:List ck} {te:TE} {t:TA} {pos:Pos}
def DW:PA X [] Zw:=λ_ _ _ _ H Q I h=>GM ⟨[],H,I,.nil,h⟩
def pO(g:PE X e te)(j:PA X es t)(hs:1<|aU (e::es) X.env=(ZX,dh e X.env)::aU es X.env):PA X (e::es) (Zx te t):=by intro pos pins s σ H Q I h;rw[hs];show bf _ _ (spliced ((ZX,dh e X.env)::gU pos (aU es X.env))) _ _ s;refine uW (jk (g pins s σ H _ I h) λu n Z=>Z23 Z λx H1 q z B=>?_);exact jk (j pos pins n σ H1 _ q B) λus s2 Z=>Z23 Z λxs H2 D F G=>⟨x::xs,H2,D,.cons z F,G⟩
def a0W(t:TA):TE:=λσ H Q=>t σ H λxs H1=>xs.length<=bc/\∀p,H1 p=ZZ->Q (.ref p) (gw H1 p (.tup xs))
def a0X(t:TA):TE:=λσ H Q=>t σ H λxs H1=>xs.length<=bc/\∀p,H1 p=ZZ->Q (.ref p) (gw H1 p (.lst xs))
def XQ{n}(h:PA X es t):PE X (.Tuple es n pos) (a0W t):=by intro pins s σ H Q I B;refine wpAny_Tuple_spliced (jk (h pos pins s σ H _ I B) λD g Z=>Z24 Z λxs H1 j r z q=>⟨by rwa[<-r.length],?_⟩);have F:H1 g.heap.objs.size=ZZ:=j.hok.fresh (aN _);refine⟨.ref g.heap.objs.size,gw H1 g.heap.objs.size (.tup xs),j.laid (t':=g.toks) (λb u e=>aE _ e) (aN _) ?_,rfl,q _ F⟩;exact⟨z,D,r,⟨_,b8 _ rfl,rfl,_,rfl⟩⟩
def Ti(h:PA X es t):PE X (.List es pos) (a0X t):=by intro pins s σ H Q I n;refine wpAny_List_spliced (jk (h pos pins s σ H _ I n) λB g Z=>Z24 Z λxs H1 j r z q=>⟨by rwa[<-r.length],?_⟩);have D:H1 g.heap.objs.size=ZZ:=j.hok.fresh (aN _);refine⟨.ref g.heap.objs.size,gw H1 g.heap.objs.size (.lst xs),j.laid (t':=g.toks) (λb u e=>aE _ e) (aN _) ?_,rfl,q _ D⟩;exact⟨z,B,0,r,b8 _ rfl⟩
end
abbrev Sp:=List V->Hp->VK->XK->Prop
abbrev SV:=List Env->Hp->aA->XK->aq->aA->Prop
structure OY(P:bF)(w:cD)(K:ab)(mg:Str->Option aq)(base:cQ)(A:cB)(outer:List Env)(s:aA)(H:Hp):Prop where
 frames:A.frames=Z_ outer
 mod:jb K mg base
 bs:∀b o,base.get? b=Z_ o->s.heap.get? b=Z_ o/\H b=ZZ
 bsz:base.objs.size<=s.heap.objs.size
 a3z:s.heap.FunFrames base outer
 frf:∀b∈T7 outer,H b=ZZ
 hok:yd P w H s.heap
 bare:AllBare s.gens
def CE(outer:List Env)(P:bF)(w:cD)(H:Hp)(s:aA)(Q:VK)(u:aq)(s':aA):Prop:=∃v H',s'.os=s.os/\AllBare s'.gens/\Un (T7 outer) [] H H' s.heap s'.heap/\yd P w H' s'.heap/\ee v u/\Q v H'
def CR(CX:SV)(outer:List Env)(P:bF)(w:cD)(H:Hp)(s:aA)(Q:VK)(E:XK)(r:Result)(s':aA):Prop:=
 match r with
 |.ok (.ret u)=>CE outer P w H s Q u s'
 |.ok _=>False
 |.error e=>CX outer H s E e s'
structure oU(P:bF)(w:cD)(K:ab)(mg:Str->Option aq)(base:cQ)(CX:SV)(k:Nat)(f:ak)(fd:jx)(ps:List Str)(sp:Sp):Prop where
 len:∀vs H Q E,sp vs H Q E->vs.length=ps.length
 run:∀(A:cB) (outer:List Env) (s:aA) (H:Hp) (args:Args) (us:List aq) (vs:List V) (Q:VK) (E:XK),jw k A->OY P w K mg base A outer s H->BindsTo s fd args (ps.zip us)->dC vs us->sp vs H Q E ->
  Hs (bI P w) A (.call (.ref f) args) (CR CX outer P w H s Q E) s
def oU.mono{P w K mg base CX}{j k:Nat}{f fd ps sp}(F:oU P w K mg base CX j f fd ps sp)(h:j<=k):
  oU P w K mg base CX k f fd ps sp:=⟨F.len,λA outer s H args g n Q E q=>F.run A outer s H args g n Q E (q.mono h)⟩
def OY.make{P w K mg base}{A:cB}{outer s H}(e:OY P w K mg base A outer s H)(C:ak)(us:List aq)(g:List (Str×aq)):
  OY P w K mg base (A.under (.builtin "type.__call__" ⟨.ref C::us,g⟩)) outer s H:=⟨by first|exact e.frames|(simpa[Around.under,Code.envs,Code.isFrame,pushEnvs] using e.frames),e.mod,e.bs,e.bsz,e.a3z,e.frf,e.hok,e.bare⟩
section
variable {X:Cx} {pins:List (ak×Obj)} {σ:St} {H:Hp} {s s':aA}
def cq.a5v(I:cq X pins σ H s):OY X.prog X.w X.K X.mg X.base X.A X.stack s H:=⟨I.ok.frames,I.ok.mod,I.bs,c6 I.ok.bsz I.sz,I.stack,I.a4r,I.hok,I.bare⟩
def cq.after{Q u}(I:cq X pins σ H s)(h:CE X.stack X.prog X.w H s Q u s'):EP X pins σ Q u s':=by obtain⟨v,H',os,bare,B,j,r,q⟩:=h;obtain⟨D,g,d,t,n⟩:=s';obtain rfl:n=s.os:=os;exact⟨v,H',I.call (h':=D) (g':=g) (d':=d) (t':=t) (ch:=[]) B j bare (λb z=>absurd z (by simp)),r,q⟩
end
def Zy(sp:Sp)(dvs:List V)(E:XK)(t:TA):TE:=λσ H Q=>t σ H λg H1=>sp (g++dvs) H1 Q E
def WQ(C:ak)(sp:Sp)(dvs:List V)(E:XK)(t:TA):TE:=λσ H Q=>t σ H λg H1=>∀x dx,H1 x=ZZ->H1 dx=ZZ->dx≠x ->
 sp (.ref x::(g++dvs)) (gw (gw H1 dx (.own x)) x (.ins C dx [])) (λv H2=>v=.non/\Q (.ref x) H2) E
def oY(K:ab)(fd:jx)(ps:List Str)(ds:List aq):Prop:=∀(s:aA) (g:List aq),K.In s.heap->(g++ds).length=ps.length->BindsTo s fd ⟨g,[]⟩ (ps.zip (g++ds))
def oY.all{K fd}{ps:List Str}(h:∀us:List aq,us.length=ps.length->bindArgs fd ⟨us,[]⟩=pure (ps.zip us)):oY K fd ps []:=λs us _ g=>by rw[e9]at g ⊢;exact .of_eq (h us g)
def DX(CX:SV)(X:Cx)(E:XK):Prop:=∀(pins:List (ak×Obj)) (σ:St) (H:Hp) (s:aA) (e:aq) (s':aA),cq X pins σ H s->CX X.stack H s E e s'->X.xe e s'
section
variable {X:Cx} {CX:SV} {k:Nat} {f C:ak} {fd:jx} {ps:List Str} {sp:Sp} {dvs:List V} {ds:List aq} {E:XK} {x m:Str} {p pos apos:Pos} {e o:ck} {es:List ck} {ta:TE} {t:TA}
def Tj{pins σ H s Q us vs}(F:oU X.prog X.w X.K X.mg X.base CX k f fd ps sp)(n:jw k X.A)(q:oY X.K fd ps ds)(z:dC dvs ds)(B:DX CX X E)
  (I:cq X pins σ H s)(r:dC vs us)(h:sp (vs++dvs) H Q E):bf (bI X.prog X.w) X.A (Kb (.ref f) us) (EP X pins σ Q) X.xe s:=by
 have j:dC (vs++dvs) (us++ds):=r.append z;have D:(us++ds).length=ps.length:=by rw[<-j.length];exact F.len _ _ _ _ h
 refine wpAny_call (codeAny_mono (F.run X.A X.stack s H ⟨us,[]⟩ (us++ds) (vs++dvs) Q E n I.a5v (q s us I.kIn D) j h) λr s' g=>?_);cases r with
 |error e=>exact B pins σ H s e s' I g
 |ok fl=>
  cases fl with
  |ret u=>exact I.after g
  |next=>exact fY g
  |brk=>exact fY g
  |cont=>exact fY g
def VJ(F:oU X.prog X.w X.K X.mg X.base CX k f fd ps sp)(z:jw k X.A)(B:Gl X x)(hm:X.mg x=Z_ (.ref f))(D:eJ X.K (.ref f)=ZY)(G:oY X.K fd ps ds)(J:dC dvs ds)(L:DX CX X E)
  (M:PA X (e::es) t)(g:2<|(x==("__debug__":Str))=ZX)(he:1<|aU (e::es) X.env=(ZX,dh e X.env)::aU es X.env)(j:1<|(gU pos (aU es X.env)).any (·.1)=ZX) :
  PE X (.Call (.Name x p) (e::es) [] pos) (Zy sp dvs E t):=by
 intro pins s σ H Q I h;refine qz (GS I B hm ?_ g);refine DJ (h₀:=X.base) I.ok.mod.kin D (jk (M pos pins s σ H _ I h) λus s1 Z=>Z23 Z λvs H1 n r q=>⟨n.kIn,?_⟩) he j;exact Tj F z G J L n r q
structure Mk(K:ab)(C f:ak):Prop where
 makes:PySem.W.makesIn K C=ZY
 init:bP K (.ref C) "__init__"=Z_ (Z_ (.ref f))
 fn:PySem.W.isFn K (.ref f)=ZY
 kp:eJ K (.ref C)=ZY
def Nb{pins σ H s Q us vs}(M:Mk X.K C f)(F:oU X.prog X.w X.K X.mg X.base CX k f fd ps sp)(z:jw (k+1) X.A)(B:oY X.K fd ps ds)(D:dC dvs ds)
  (G:DX CX X E)(I:cq X pins σ H s)(r:dC vs us)
  (h:∀x dx,H x=ZZ->H dx=ZZ->dx≠x->sp (.ref x::(vs++dvs)) (gw (gw H dx (.own x)) x (.ins C dx [])) (λv H2=>v=.non/\Q (.ref x) H2) E) :
  bf (bI X.prog X.w) X.A (Kb (.ref C) us) (EP X pins σ Q) X.xe s:=by
 have n:=h (s.heap.objs.size+1) s.heap.objs.size (I.hok.fresh (Nat.le_succ _)) (I.hok.fresh (aN _)) (b_ (rL _));have j:=cq.made (C:=C) I;have q:dC (V.ref (s.heap.objs.size+1)::(vs++dvs)) (bp (s.heap.objs.size+1)::(us++ds)):=.cons rfl (r.append D);have J:(bp (s.heap.objs.size+1)::us++ds).length=ps.length:=by have e:=q.length;rw[F.len _ _ _ _ n]at e;exact e.symm
 refine wpAny_call (Th (f:=f) I.kIn M.makes M.init (beq_iff_eq.mp M.fn) (codeAny_mono (F.run _ X.stack _ _ ⟨bp (s.heap.objs.size+1)::us,[]⟩ (bp (s.heap.objs.size+1)::(us++ds)) _ _ E (z.make C us [])
  (j.a5v.make C us []) (B _ (bp (s.heap.objs.size+1)::us) j.kIn J) q n) λr s' g=>?_))
 cases r with
 |error e=>exact G pins σ _ _ e s' j g
 |ok fl=>
  cases fl with
  |ret u=>obtain⟨v,H',L,N,O,R⟩:=j.after g;subst O;exact⟨N,⟨V.ref (s.heap.objs.size+1),H',L,rfl,R⟩⟩
  |next=>exact fY g
  |brk=>exact fY g
  |cont=>exact fY g
def VL(M:Mk X.K C f)(F:oU X.prog X.w X.K X.mg X.base CX k f fd ps sp)(z:jw (k+1) X.A)(B:Gl X x)(hm:X.mg x=Z_ (.ref C))(D:oY X.K fd ps ds)(G:dC dvs ds)(J:DX CX X E)
  (L:PA X (e::es) t)(g:2<|(x==("__debug__":Str))=ZX)(he:1<|aU (e::es) X.env=(ZX,dh e X.env)::aU es X.env)(j:1<|(gU pos (aU es X.env)).any (·.1)=ZX) :
  PE X (.Call (.Name x p) (e::es) [] pos) (WQ C sp dvs E t):=by
 intro pins s σ H Q I h;refine qz (GS I B hm ?_ g);refine DJ (h₀:=X.base) I.ok.mod.kin M.kp (jk (L pos pins s σ H _ I h) λus s1 Z=>Z23 Z λvs H1 n r q=>⟨n.kIn,?_⟩) he j;exact Nb M F z D G J n r q
def Tn(M:Mk X.K C f)(F:oU X.prog X.w X.K X.mg X.base CX k f fd ps sp)(j:jw (k+1) X.A)(n:Gl X x)(hm:X.mg x=Z_ (.ref C))(q:oY X.K fd ps ds)(z:dC dvs ds)(B:DX CX X E)
  (g:2<|(x==("__debug__":Str))=ZX):PE X (.Call (.Name x p) [] [] pos) (WQ C sp dvs E Zw):=by
 intro pins s σ H Q I h;refine qz (GS I n hm ?_ g);exact PySem.W.callWith_K0 I.kIn M.kp (Nb (us:=[]) M F j q z B I .nil h)
end
structure bt(N P:List Str)(sc:gn):Prop where
 kind:sc.kind=.function
 co:sc.isCoroutine=ZX
 gen:sc.isGenerator=ZX
 nd:N.Nodup
 pre:N.take P.length=P
 par:∀x∈P,sc.names.lookup x=Z_ .local\/sc.names.lookup x=Z_ .cell
 a5d:∀y∈sc.names,y.2≠.free
def Kj{kindOf x}:∀{binds:List (Str×aq)} {m:Str->Option aq},(∀v,(x,v)∉binds)->bindL kindOf binds m x=m x
 |[],_,_=>rfl
 |(n,v)::r,m,h=>by
  unfold bindL;rw[Kj λw hw=>h w (ba _ hw)];split
  .have:x≠n:=by rintro rfl;exact h v bG
   simp[this]
  .rfl
def Kk{kindOf x}:∀{binds:List (Str×aq)} {m:Str->Option aq},(∀v,(x,v)∉binds)->bindC kindOf binds m x=m x
 |[],_,_=>rfl
 |(n,v)::r,m,h=>by
  unfold bindC;rw[Kk λw hw=>h w (ba _ hw)];split
  .rfl
  .have:x≠n:=by rintro rfl;exact h v bG
   simp[this]
def Kl{kindOf x v}:∀{P:List Str} {vs:List aq} {i:Nat} {m:Str->Option aq},P.Nodup->P[i]?=Z_ x->vs[i]?=Z_ v->kindOf x=Z_ .local ->
  bindL kindOf (P.zip vs) m x=Z_ v
 |[],_,_,_,_,h,_,_=>by simp at h
 |_::_,[],_,_,_,_,h,_=>by simp at h
 |p::P,w::vs,0,m,g,h1,h2,j=>by simp at h1 h2;subst h1;subst h2;show bindL kindOf ((p,w)::P.zip vs) m p=_;unfold bindL;rw[Kj λv n=>(bX.mp g).1 (List.of_mem_zip n).1,i0p j];simp
 |p::P,w::vs,i+1,m,g,h1,h2,j=>by show bindL kindOf ((p,w)::P.zip vs) m x=_;unfold bindL;exact Kl (i:=i) (bX.mp g).2 (by simpa using h1) (by simpa using h2) j
def Km{kindOf x v}:∀{P:List Str} {vs:List aq} {i:Nat} {m:Str->Option aq},P.Nodup->P[i]?=Z_ x->vs[i]?=Z_ v->kindOf x≠Z_ .local ->
  bindC kindOf (P.zip vs) m x=Z_ v
 |[],_,_,_,_,h,_,_=>by simp at h
 |_::_,[],_,_,_,_,h,_=>by simp at h
 |p::P,w::vs,0,m,g,h1,h2,j=>by simp at h1 h2;subst h1;subst h2;show bindC kindOf ((p,w)::P.zip vs) m p=_;unfold bindC;rw[Kk λv n=>(bX.mp g).1 (List.of_mem_zip n).1,i0n j];simp
 |p::P,w::vs,i+1,m,g,h1,h2,j=>by show bindC kindOf ((p,w)::P.zip vs) m x=_;unfold bindC;exact Km (i:=i) (bX.mp g).2 (by simpa using h1) (by simpa using h2) j
def A_(N:List Str)(vs:List V):St:=vs.map Z_++qc (N.length-vs.length) ZZ
def Nc(CX:SV)(P:bF)(w:cD)(K:ab)(mg:Str->Option aq)(base:cQ)(N:List Str)(qual:Str)(scope:gn)(f:ak)(j:aq)(A:cB)(outer:List Env)(s:aA)(H:Hp)(E:XK):Cx where
 prog:=P
 w:=w
 K:=K
 mg:=mg
 base:=base
 A:=A.deeper (yj qual scope s.heap.objs.size f j)
 N:=N
 s_0:=s
 H_0:=H
 env:=yj qual scope s.heap.objs.size f j
 outer:=outer
 stack:=yj qual scope s.heap.objs.size f j::outer
 ex:=[]
 calm:=ZY
 fn:=λ_=>ZY
 pn:=[]
 xe:=λe s'=>bf (bI P w) (A.deeper (yj qual scope s.heap.objs.size f j)) (leaving (yj qual scope s.heap.objs.size f j) e) (λ_ g=>CX outer H s E e g) (λn g=>CX outer H s E n g) s'
def Nd{g:gn}{n:Nat}{x}(h:g.names.lookup x=Z_ .cell):∃c,(fK n g.names []).lookup x=Z_ c:=by have q:=PySem.W.cellsFrom_some g.names n [] (.inl h);exact fM.mp q
def Rz{CX P w K mg base}{N ps:List Str}{qual}{scope:gn}{f D}{A:cB}{outer}{s F:aA}{H E us}{vs:List V}
  (S:bt N ps scope)(J:A.handled=ZZ)(g:OY P w K mg base A outer s H)(hl:vs.length=ps.length)(r:dC vs us)
  (x:InCallC s s.heap.objs.size (bindL (yj qual scope s.heap.objs.size f D).kindOf (ps.zip us) λ_=>ZZ) (fK (s.heap.objs.size+1) scope.names []) (bindC (yj qual scope s.heap.objs.size f D).kindOf (ps.zip us) λ_=>ZZ) F) :
  cq (Nc CX P w K mg base N qual scope f D A outer s H E) [] (A_ N vs) H F:=by
 have hpl:ps.length<=N.length:=by have:=congrArg xq S.pre;rw[eM]at this;lia
 obtain⟨h1,tk,rfl,G⟩:=x.done;have noA:∀b:ak,b∉(Nc CX P w K mg base N qual scope f D A outer s H E).ex:=λb z=>absurd (show b∈([]:List ak) from z) (by simp);refine⟨⟨g.mod,S.kind,rfl,rfl,aN _,λy z c h1 h2=>?_,λy hy=>?_,λy c _ h=>?_,λ_=>J,Around.frames_deeper g.frames,.inr ⟨rfl,rfl⟩,λb z=>absurd z (noA b),g.bs,g.bsz,λb _ _=>noA b,λb z=>absurd z (noA b),g.a3z,g.frf⟩,
  rfl,g.bare,Un.kept G,⟨_,x.toInCall.ns,λi y v h1 h2 h3=>?_⟩,λy c h=>⟨_,x.cell y c h⟩,g.hok.fresh (aN _),λy c h=>?_,λp j=>absurd (show p∈([]:List (ak×Obj)) from j) (by simp),g.hok.kept G,?_⟩
 .exact name_of_addr x.apart (cN h1) (cN h2)
 .have hy:scope.names.lookup y=Z_ .cell\/scope.names.lookup y=Z_ .free:=hy;rcases hy with hy|hy
  .exact Nd hy
  .exact absurd rfl (S.a5d _ (cN hy))
 .exact Jv (x.above y c (cN h))
 .have hi:i<vs.length:=by
   unfold A_ at h2;by_cases hi:i<vs.length
   .exact hi
   .rw[u_ (by simpa using hi)]at h2;rw[List.getElem?_replicate]at h2;split at h2<;>cases h2
  have L:vs[i]?=Z_ v:=by
   unfold A_ at h2;rw[gL (by simpa using hi),aR]at h2;cases e:vs[i]? with
   |none=>rw[e]at h2;cases h2
   |some a=>rw[e]at h2;cases h2;rfl
  obtain⟨u,I,M⟩:=r.get L;have j:ps[i]?=Z_ y:=by rw[<-S.pre,List.getElem?_take_of_lt (by lia)];exact h1
  have B:ps.Nodup:=by rw[<-S.pre];exact S.nd.sublist (List.take_sublist _ _)
  refine⟨u,M,?_⟩;rcases S.par y (aJ j) with k|k
  .exact .inl ⟨k,Kl B j I k⟩
  .obtain⟨c,e⟩:=Nd (n:=s.heap.objs.size+1) k;refine .inr ⟨.inl k,c,e,?_⟩;have q:=x.cell y c e;rw[Km B j I (by show scope.names.lookup y≠_;rw[k];decide)]at q;exact q
 .exact g.hok.fresh (Jv (x.above y c (cN h)))
 .unfold A_;show _=N.length;rw[aK,ah,List.length_replicate];lia
def Zz{CX P w}{K:ab}{mg base}{k:Nat}{f name qual params body scope dV kV D pm g ct oc an od}
  {O:Array (Option aq)}{N ps:List Str}{sp:Sp}(lk:K.lookup f=Z_ ⟨oc,od,.func (jq name qual params body scope dV kV D pm an g ct),O⟩)(R:tJ K g qual=ZY)(S:bt N ps scope)
  (F:∀vs H Q E,sp vs H Q E->vs.length=ps.length)
  (j:∀(A:cB) (outer:List Env) (s:aA) (H:Hp) (vs:List V) (Q:VK) (E:XK),jw k (A.deeper (yj qual scope s.heap.objs.size f g))->sp vs H Q E ->
   ∃t,N6 (Nc CX P w K mg base N qual scope f g A outer s H E) body t/\t {nx:=λ_ H'=>Q .non H',rt:=Q} (A_ N vs) H) :
  oU P w K mg base CX (k+1) f (jq name qual params body scope dV kV D pm an g ct) ps sp:=by
 refine⟨F,λA outer s H args us vs Q E U G hb r L=>?_⟩;have hl:=F _ _ _ _ L;have KX:K.In s.heap:=G.mod.kin.keeps λb o e=>(G.bs b o e).1;have Y:s.heap.NoLimit:=G.mod.nolimit.keeps λb o e=>(G.bs b o e).1;have z:∀y∈ps.zip us,scope.names.lookup y.1=Z_ .local\/(scope.names.lookup y.1=Z_ .cell/\((fK (s.heap.objs.size+1) scope.names []).lookup y.1).isSome=ZY):=λ⟨n,v⟩ hy=>by
  rcases S.par n (List.of_mem_zip hy).1 with q|q
  .exact .inl q
  .exact .inr ⟨q,PySem.W.cellsFrom_some _ _ _ (.inl q)⟩
 refine codeAny_call_function U.depth (KX _ _ lk) rfl S.co S.gen rfl (PySem.W.codeRec_of KX R) (hb _ _ _ _ ?_);refine wpAny_newFunctionEnv_cells S.kind z λenv he s1 x=>?_;subst he;refine⟨Y.keeps x.toInCall.keep,codeAny_func ?_⟩;obtain⟨t,ht,hq⟩:=j A outer s H vs Q E (U.deeper _) L;have I:cq (Nc CX P w K mg base N qual scope f g A outer s H E) [] (A_ N vs) H s1:=Rz S U.hd G hl r x;refine kC (ht [] s1 (A_ N vs) H _ I hq) (λfl s' B=>?_) λe s' B=>B;have M:∀{σ':St} {H':Hp} {v:V} {u:aq},cq (Nc CX P w K mg base N qual scope f g A outer s H E) [] σ' H' s'->ee v u->Q v H'->CE outer P w H s Q u s':=λ{σ' H' v u} J Z q=>⟨v,H',J.os,J.bare,J.base,J.hok,Z,q⟩
 cases fl with
 |ret u=>obtain⟨v,σ',H',J,Z,q⟩:=B;exact M J Z q
 |next=>obtain⟨σ',H',J,q⟩:=B;exact M (v:=V.non) (u:=eG) J rfl q
 |brk=>obtain⟨_,_,_,q⟩:=B;exact fY q
 |cont=>obtain⟨_,_,_,q⟩:=B;exact fY q
end L2
namespace L2
open PySem PySem.Spec PyProof.Rows
section
variable {X:Cx} {x:Str} {p pos:Pos} {e:ck} {es:List ck} {t:TA} {id T:String} {r:List V->Hp->VK->Prop}
def a1J(r:List V->Hp->VK->Prop)(t:TA):TE:=λσ H Q=>t σ H λg H1=>r g H1 Q
def To(n:kr X (.builtin id) r)(q:Gl X x)(hm:X.mg x=ZZ)(z:oN x=Z_ (.builtin id))(B:PA X (e::es) t)(D:2<|x≠"__name__")(g:2<|(x==("__debug__":Str))=ZX)
  (he:1<|aU (e::es) X.env=(ZX,dh e X.env)::aU es X.env)(j:1<|(gU pos (aU es X.env)).any (·.1)=ZX):PE X (.Call (.Name x p) (e::es) [] pos) (a1J r t):=by
 intro pins s σ H Q I h;refine qz (Bx I q hm z ?_ D g);exact PyProof.Rows.callWith_builtin1 (jk (B pos pins s σ H _ I h) λF G Z=>Z23 Z λJ H1 L M N=>n pins G σ H1 J F Q L M N) he j
def RA(n:kr X (.type T) r)(q:Gl X x)(hm:X.mg x=ZZ)(z:oN x=Z_ (.type T))(B:PA X (e::es) t)(D:2<|x≠"__name__")(g:2<|(x==("__debug__":Str))=ZX)
  (he:1<|aU (e::es) X.env=(ZX,dh e X.env)::aU es X.env)(j:1<|(gU pos (aU es X.env)).any (·.1)=ZX):PE X (.Call (.Name x p) (e::es) [] pos) (a1J r t):=by
 intro pins s σ H Q I h;refine qz (Bx I q hm z ?_ D g);exact fR (jk (B pos pins s σ H _ I h) λF G ⟨J,H1,L,M,N⟩=>n pins G σ H1 J F Q L M N) he j
end
end L2
namespace HT
open PySem PyProof.Rows

section
variable {prog:bF} {w:cD} {A:cB} {E:aq->aA->Prop} {s:aA}
def cat_tup{t b}{vs ws:List aq}{Q}(N:IsTup s.heap t vs.toArray)(O:IsTup s.heap b ws.toArray)(F:vs≠[])
  (h1:ws=[]->Q (.ref t) s)(h2:ws≠[]->Q (.ref s.heap.objs.size) {s with heap:=s.heap.push {cls:=.type "tuple",data:=.seq (vs++ws).toArray}})
  (hsz:vs.length+ws.length<=bc):bf (bI prog w) A (pL .Add (.ref t) (.ref b)) Q E s:=by
 obtain⟨⟨cls,G,data,I⟩,D,J,n,L⟩:=id N;obtain⟨⟨cls2,j,data2,q⟩,g,z,M,B⟩:=id O;simp only at J L z B;subst J L z B;have e:vs.toArray++ws.toArray=(vs++ws).toArray:=by simp
 by_cases hw:ws=[]
 .exact concat_meets ⟨_,D,rfl⟩ ⟨_,g,rfl⟩ noFill_tuple_add seq_tuple_add yk xr (vW _ _)
   (tuple_addW1 t b vs.toArray ws.toArray n M G j I q (by simpa using F) (by simp[hw])) ⟨D,g,h1 hw⟩
 .refine concat_meets ⟨_,D,rfl⟩ ⟨_,g,rfl⟩ noFill_tuple_add seq_tuple_add yk xr (vW _ _)
   (tuple_addW2 t b vs.toArray ws.toArray n M G j I q (by simpa using F) (by simpa using hw) (by rwa[br,br])) ⟨D,g,?_⟩
  rw[e];exact h2 hw
def sIx(n d:Nat):Option Int->Nat
 |none=>d
 |some v=>if v<0 then (v+(n:Int)).toNat else min v.toNat n
def sIx_nat(n d k:Nat):sIx n d (Z_ (k:Int))=min k n:=by show (if (k:Int)<0 then ((k:Int)+(n:Int)).toNat else min (k:Int).toNat n)=min k n;rw[i0n (by lia),bA]
end
end HT
namespace L2
open PySem PySem.Spec PyProof.Rows

abbrev TO:=St->Hp->(Option Int->Hp->Prop)->Prop
def PO(X:Cx)(e:Option ck)(t:TO):Prop:=
 ∀(pins:List (ak×Obj)) (s:aA) (σ:St) (H:Hp) (Q:Option Int->Hp->Prop),cq X pins σ H s->t σ H Q ->
  bf (bI X.prog X.w) X.A (evalPart e X.env) (λu s'=>∃o H',cq X pins σ H' s'/\IsPart u o/\Q o H') X.xe s
def ZA(t:TE):TO:=λσ H Q=>t σ H λx H1=>∃i,x=.int i/\Q (Z_ i) H1
section
variable {X:Cx} {e:ck} {te:TE} {lo hi:Option ck} {tl th:TO} {pos p2:Pos}
def Qp(h:PE X e te):PO X (Z_ e) (ZA te):=by intro pins s σ H Q I hw;rw[evalPart_some];refine jk (h pins s σ H _ I hw) λu s1 Z=>Z23 Z λx H1 g j n=>?_;obtain⟨i,rfl,q⟩:=n;obtain⟨t,rfl⟩:=j;exact⟨Z_ i,H1,g,.int i t,q⟩
def Z0(X:Cx)(r:V->Option Int->Option Int->Hp->VK->Prop):Prop:=
 ∀(pins:List (ak×Obj)) (s:aA) (σ:St) (H:Hp) (x:V) (v g j:aq) (lo hi:Option Int) (n:ak) (Q:VK),cq X pins σ H s->ee x v->s.heap.IsSliceOf n g j .none->IsPart g lo->IsPart j hi->r x lo hi H Q ->
  ∃T id,typeLookup (.type T) "__getitem__"=pure (Z_ (.builtin id))/\s.TypeIs v T/\bf (bI X.prog X.w) X.A (getItem v (.ref n)) (EP X pins σ Q) X.xe s
def tSl(r:V->Option Int->Option Int->Hp->VK->Prop)(te:TE)(tl th:TO):TE:=λσ H Q=>te σ H λx H1=>tl σ H1 λl H2=>th σ H2 λu g=>r x l u g Q
def Tp{r}(z:Z0 X r)(he:PE X e te)(B:PO X lo tl)(D:PO X hi th):PE X (.Subscript e (.Slice lo hi ZZ p2) pos) (tSl r te tl th):=by intro pins s σ H Q I h;refine Subscript_ (jk (he pins s σ H _ I h) λv F V=>Z23 V λx H1 G J L=>?_);refine wpAny_Slice (jk (B pins F σ H1 _ G L) λg M V=>Z23 V λl H2 N O R=>jk (D pins M σ H2 _ N R) λj s3 V=>Z23 V λu n S U W=>?_);rw[evalPart_none];refine aD ?_;have Y:cq X pins σ n {s3 with heap:=s3.heap.push {cls:=.type "slice",data:=.fields #[g,j,.none]}}:=S.kept (t':=s3.toks) λb ob q=>aE _ q;obtain⟨T,id,Z,ht,hg⟩:=z pins {s3 with heap:=s3.heap.push {cls:=.type "slice",data:=.fields #[g,j,.none]}} σ n x v g j l u s3.heap.objs.size Q Y J (Heap.IsSliceOf.new ..) O U W;show bf (bI X.prog X.w) X.A (JB e (.Slice lo hi ZZ p2) v (.ref s3.heap.objs.size)) (EP X pins σ Q) X.xe {s3 with heap:=s3.heap.push {cls:=.type "slice",data:=.fields #[g,j,.none]}};exact tail_any (ops:=[.ref s3.heap.objs.size,v]) ht Z hg (by with_unfolding_all rfl)
def RB(xs:List V)(lo hi:Option Int):List V:=(xs.drop (HT.sIx xs.length 0 lo)).take (HT.sIx xs.length xs.length hi-HT.sIx xs.length 0 lo)
def Nf(xs:List V)(lo hi:Option Int):(RB xs lo hi).length<=xs.length:=by unfold RB;rw[eM,mN];lia
def WR(K:ab):R2:=λx y H Q=>∃a b xs ys,x=.ref a/\y=.ref b/\oQ K H a xs/\oQ K H b ys/\xs≠[]/\xs.length+ys.length<=bc /\
 (ys=[]->Q (.ref a) H)/\(ys≠[]->∀p,H p=ZZ->Q (.ref p) (gw H p (.tup (xs++ys))))
def dC.a3V{xs us}(r:dC xs us):us=[]↔xs=[]:=by
 cases r with
 |nil=>simp
 |cons _ _=>simp
def VM:r0 X (pL .Add) (WR X.K):=by intro pins s σ H x y v u Q I B D h;obtain⟨a,b,xs,ys,rfl,rfl,F,G,J,n,L,M⟩:=h;cases B;cases D;obtain⟨its,j,N,_⟩:=I.tuple F;obtain⟨its2,g,p2,_⟩:=I.tuple G;refine HT.cat_tup N p2 (λz=>J (j.a3V.mp z)) (λz=>⟨.ref a,H,I,rfl,L (g.a3V.mp z)⟩) (λz=>?_) (by rwa[<-j.length,<-g.length]);refine⟨.ref s.heap.objs.size,_,I.laid (t':=s.toks) (o:=.tup (xs++ys)) (λb ob q=>aE _ q) (aN _) ?_,rfl,M (λw=>z (g.a3V.mpr w)) _ (I.hok.fresh (aN _))⟩;exact⟨by rwa[aK],_,j.append g,IsTup.new _ _⟩
end
end L2
namespace L2
open PySem PySem.Spec PyProof.Rows

def SW(n:Nat)(i:Int):Option Nat:=if 0<=i then (if i<n then Z_ i.toNat else ZZ) else if -(n:Int)<=i then Z_ (i+n).toNat else ZZ
def tL{α:Type}(xs:List α)(i:Int):Option α:=(SW xs.length i).bind λj=>xs[j]?
def Qq{n:Nat}{i:Int}{j:Nat}(h:SW n i=Z_ j):seqIndex? i n=Z_ j/\j<n/\-(n:Int)<=i/\i<n:=by
 unfold SW at h;by_cases g:0<=i
 .rw[i0p g]at h;by_cases h1:i<n
  .rw[i0p h1]at h;have e:i.toNat=j:=az h;exact⟨by rw[seqIndex_of g h1,e],by lia,by lia,h1⟩
  .rw[i0n h1]at h;cases h
 .rw[i0n g]at h;by_cases h1:-(n:Int)<=i
  .rw[i0p h1]at h;have e:(i+n).toNat=j:=az h;exact⟨by rw[seqIndex_neg (by lia) h1,e],by lia,h1,by lia⟩
  .rw[i0n h1]at h;cases h
def Qr{α:Type}{xs:List α}{i:Int}{v}(h:tL xs i=Z_ v):∃j,seqIndex? i xs.length=Z_ j/\xs[j]?=Z_ v/\j<xs.length/\-(xs.length:Int)<=i/\i<xs.length:=by
 unfold tL at h;cases e:SW xs.length i with
 |none=>rw[e]at h;cases h
 |some j=>rw[e]at h;obtain⟨h1,h2,g,n⟩:=Qq e;exact⟨j,h1,h,h2,g,n⟩
def d9{α:Type}{xs:List α}{j:Nat}{v:α}(h:xs[j]?=Z_ v):tL xs (j:Int)=Z_ v:=by
 have hj:j<xs.length:=(ax.mp h).1;have e:SW xs.length (j:Int)=Z_ j:=by unfold SW;rw[i0p (by lia),i0p (by lia)];simp
 unfold tL;rwa[e]
def GT(b:ck):Prop:=∀o i,subscripted b ZX o i=operate [o,i] (getItem o i)
def Vr(X:Cx)(r:R2):Prop:=
 ∀(value slice:ck) (pins:List (ak×Obj)) (s:aA) (σ:St) (H:Hp) (x y:V) (v u:aq) (Q:VK),cq X pins σ H s->ee x v->ee y u->r x y H Q ->
  subscripted slice ZX v u=operate [v,u] (getItem v u)->bf (bI X.prog X.w) X.A (JB value slice v u) (EP X pins σ Q) X.xe s
def a1K(X:Cx)(id:String)(r:V->List V->Hp->VK->Prop):Prop:=
 ∀(pins:List (ak×Obj)) (s:aA) (σ:St) (H:Hp) (x:V) (xs:List V) (v:aq) (g:List aq) (Q:VK),cq X pins σ H s->ee x v->dC xs g->r x xs H Q ->
  bf (bI X.prog X.w) X.A (Kb (.builtin id) (v::g)) (EP X pins σ Q) X.xe s
section
variable {X:Cx} {a b:ck} {ta tb:TE} {pos:Pos}
def Vr.or{r g}(h:Vr X r)(h':Vr X g):Vr X (λx y H Q=>r x y H Q\/g x y H Q):=by
 intro value slice pins s σ H x y v u Q I j n q z;rcases q with q|q
 .exact h value slice pins s σ H x y v u Q I j n q z
 .exact h' value slice pins s σ H x y v u Q I j n q z
def WS{r}(g:Vr X r)(j:PE X a ta)(n:PE X b tb)(hs:GT b):PE X (.Subscript a b pos) (a0u r ta tb):=by intro pins s σ H Q I h;exact Subscript_ (XE j n I h λv u z x y H2 B D F q=>g a b pins z σ H2 x y v u Q B D F q (hs _ _))
def ZC(K:ab):R2:=λx y H Q=>∃p xs i v,x=.ref p/\y=.int i/\ny K H p xs/\tL xs i=Z_ v/\Q v H
def ZD(K:ab):R2:=λx y H Q=>∃p xs i v,x=.ref p/\y=.int i/\oQ K H p xs/\tL xs i=Z_ v/\Q v H
def VN:Vr X (ZC X.K):=by
 intro value slice pins s σ H x y v u Q I L M h F;obtain⟨p,xs,i,z,rfl,rfl,N,O,q⟩:=h;cases L;obtain⟨t,rfl⟩:=M;obtain⟨its,r,n,hz⟩:=I.list N;obtain⟨j,h1,h2,h3,R,S⟩:=Qr O;obtain⟨w,G,B⟩:=r.get h2;have U:=r.length;have hn:=LQ;have g:EP X pins σ Q w s:=⟨z,H,I,B,q⟩
 by_cases J:0<=i
 .have D:i.toNat=j:=by
   rw[seqIndex_of J S]at h1;exact az h1
  exact item_listR n.isList J (by lia) (by rw[D];simpa using G) g F
 .have D:(i+(its.toArray.size:Int)).toNat=j:=by
   rw[seqIndex_neg (by lia) R]at h1;rw[br,<-U];exact az h1
  exact subscriptTail_builtinR (x:=w) n.isList.typeIs slot_list_getitem.lookup
   (wpAny_getItem_list_neg (Q:=λr s'=>r=w/\EP X pins σ Q r s') n.isList (by lia) (by rw[br]<;>lia) (by lia) (by rw[D];simpa using G) ⟨rfl,g⟩) F
def XR:Vr X (ZD X.K):=by
 intro value slice pins s σ H x y v u Q I D F h G;obtain⟨p,xs,i,z,rfl,rfl,J,L,q⟩:=h;cases D;obtain⟨t,rfl⟩:=F;obtain⟨its,r,B,hz⟩:=I.tuple J;obtain⟨j,h1,h2,h3,h4,h5⟩:=Qr L;obtain⟨w,M,g⟩:=r.get h2;have N:=r.length;have hn:=LQ;have n:EP X pins σ Q w s:=⟨z,H,I,g,q⟩
 exact subscriptTail_builtinR (x:=w) B.typeIs slot_tuple_getitem.lookup
  (getItem_tuple (j:=j) (Q:=λr s'=>r=w/\EP X pins σ Q r s') B (by lia) (by lia) (by rw[br,<-N];exact h1) (by simpa using M) ⟨rfl,n⟩) G
def OZ(its:List aq)(n j:Nat)(u:aq):GN (·.setIfInBounds j u) {cls:=.type "list",data:=.seq its.toArray n}={cls:=.type "list",data:=.seq (its.set j u).toArray n}:=by simp[GN]
def cq.lst{pins σ H}{s:aA}{p xs}(I:cq X pins σ H s)(h:H p=Z_ (.lst xs)):
  ∃(its:List aq) (n:Nat),dC xs its/\s.heap.get? p=Z_ {cls:=.type "list",data:=.seq its.toArray n}/\xs.length<=bc:=by
 obtain⟨z,its,n,r,e⟩:=I.hok p _ h;exact⟨its,n,r,e,z⟩
def cq.a5b{pins:List (ak×Obj)}{σ:St}{H:Hp}{s:aA}{p:ak}{xs ys:List V}{its its':List aq}{n g:Nat}{f:Obj->Obj}(I:cq X pins σ H s)(h:H p=Z_ (.lst xs))
  (j:s.heap.get? p=Z_ {cls:=.type "list",data:=.seq its.toArray n})(hf:f {cls:=.type "list",data:=.seq its.toArray n}={cls:=.type "list",data:=.seq its'.toArray g})(r:dC ys its')(hz:ys.length<=bc)(t:Nat) :
  cq X pins σ (gw H p (.lst ys)) {s with heap:=s.heap.update p f,toks:=t}:=by
 have e:(s.heap.update p f).get? p=Z_ {cls:=.type "list",data:=.seq its'.toArray g}:=by rw[lA f j (by rw[hf]<;>rfl),hf]
 refine I.write (x:=p) (e:=p) (by rw[h];trivial) (.inl rfl) (λb u z q=>(Heap.get?_update_other _ _ (aG z)).trans q) ⟨_,e⟩ ?_;exact⟨hz,its',g,r,e⟩
def ZE:V->V->V->Hp->(Hp->Prop)->Prop:=λo i v H Q=>∃p xs k j,o=.ref p/\i=.int k/\H p=Z_ (.lst xs)/\SW xs.length k=Z_ j/\Q (gw H p (.lst (xs.set j v)))
def Tq:Zj X ZE:=by
 intro pins s σ H o i v ov iv u Q I M N O h;obtain⟨p,xs,k,j,rfl,rfl,D,R,q⟩:=h;cases M;obtain⟨t,rfl⟩:=N;obtain⟨its,n,r,g,S⟩:=I.lst D;obtain⟨h1,h2,F,G⟩:=Qq R;have z:=r.length;have hn:=LQ;have J:cq X pins σ (gw H p (.lst (xs.set j v))) {s with heap:=s.heap.update p (GN (·.setIfInBounds j u))}:=I.a5b D g (OZ its n j u) (r.set O j) (by rwa[d4]) s.toks
 by_cases L:0<=k
 .have B:k.toNat=j:=by
   rw[seqIndex_of L G]at h1;exact az h1
  exact PySem.W.ki_setAt g L (by lia) (by rwa[br,<-z]) (by rw[B];exact⟨_,J,q⟩)
 .have B:(k+(its.toArray.size:Int)).toNat=j:=by
   rw[seqIndex_neg (by lia) F]at h1;rw[br,<-z];exact az h1
  exact PySem.W.ki_setBack g (by lia) (by rwa[br,<-z]) (by lia) (by rw[B];exact⟨_,J,q⟩)
def LR(lo hi:Option Int)(n:Nat):(uX lo hi ZZ n).1=((HT.sIx n 0 lo:Nat):Int)/\(uX lo hi ZZ n).2.1=((HT.sIx n n hi:Nat):Int)/\(uX lo hi ZZ n).2.2=1:=by
 refine⟨?_,?_,rfl⟩
 .cases lo with
  |none=>simp[uX,HT.sIx]
  |some i=>
   simp only[uX,HT.sIx,Option.getD_none,show (1:Int)>0 by decide,if_true];by_cases h:i<0
   .simp only[h,if_true]<;>lia
   .simp only[h,if_false]<;>lia
 .cases hi with
  |none=>simp[uX,HT.sIx]
  |some i=>
   simp only[uX,HT.sIx,Option.getD_none,show (1:Int)>0 by decide,if_true];by_cases h:i<0
   .simp only[h,if_true]<;>lia
   .simp only[h,if_false]<;>lia
def JD(its:List aq)(lo hi:Option Int):slicePick its.toArray lo hi ZZ=((its.drop (HT.sIx its.length 0 lo)).take (HT.sIx its.length its.length hi-HT.sIx its.length 0 lo)).toArray:=by obtain⟨h1,h2,g⟩:=LR lo hi its.toArray.size;unfold slicePick;rw[h1,h2,g];simp only[sliceRange_one,pick_run,br]<;>rfl
def a0Y(K:ab):V->Option Int->Option Int->Hp->VK->Prop:=λx lo hi H Q=>∃a xs,x=.ref a/\ny K H a xs/\∀p,H p=ZZ->Q (.ref p) (gw H p (.lst (RB xs lo hi)))
def VO:Z0 X (a0Y X.K):=by intro pins s σ H x v vl vu lo hi sl Q I j n z B h;obtain⟨a,xs,rfl,D,q⟩:=h;cases j;obtain⟨its,r,g,F⟩:=I.list D;have hlen:=r.length;refine⟨"list",_,slot_list_getitem.lookup,g.isList.typeIs,?_⟩;refine wpAny_getItem_list_slice g.isList n z B .none (by simp) ?_ (by rw[br]<;>lia);rw[JD,<-hlen];refine⟨.ref s.heap.objs.size,_,I.laid (t':=s.toks) (o:=.lst (RB xs lo hi)) (λb ob q=>aE _ q) (aN _) ?_,rfl,q _ (I.hok.fresh (aN _))⟩;exact⟨c6 (Nf xs lo hi) F,_,0,(r.drop (HT.sIx xs.length 0 lo)).take (HT.sIx xs.length xs.length hi-HT.sIx xs.length 0 lo),b8 _ rfl⟩
def rW:V->Bool
 |.non=>ZY
 |.bl _=>ZY
 |.int _=>ZY
 |.str _=>ZY
 |_=>ZX
def SX:V->V->Bool
 |.non,.non=>ZY
 |.bl a,.bl b=>a==b
 |.bl a,.int b=>(if a then 1 else 0)==b
 |.int a,.bl b=>a==(if b then 1 else 0)
 |.int a,.int b=>a==b
 |.str a,.str b=>a==b
 |_,_=>ZX
def XS{A s y x u v}(n:ee y u)(g:ee x v)(fy:rW y=ZY)(q:rW x=ZY):dg A s u v (SX y x):=by
 cases y with
 |non=>
  cases n;cases x with
  |non=>cases g;exact SeqAt.EqAt.same _
  |bl b=>cases g;exact SeqAt.EqAt.none_bool b
  |int b=>obtain⟨t,rfl⟩:=g;exact SeqAt.EqAt.none_int b t
  |str b=>obtain⟨t,rfl⟩:=g;exact SeqAt.EqAt.none_str b t
  |_=>exact absurd (show ZX=ZY from q) aB
 |bl a=>
  cases n;cases x with
  |non=>cases g;exact SeqAt.EqAt.bool_none a
  |bl b=>cases g;exact SeqAt.EqAt.bool_bool a b
  |int b=>obtain⟨t,rfl⟩:=g;exact SeqAt.EqAt.bool_int a b t
  |str b=>obtain⟨t,rfl⟩:=g;exact SeqAt.EqAt.bool_str a b t
  |_=>exact absurd (show ZX=ZY from q) aB
 |int a=>
  obtain⟨j,rfl⟩:=n;cases x with
  |non=>cases g;exact SeqAt.EqAt.int_none a j
  |bl b=>cases g;exact SeqAt.EqAt.int_bool a j b
  |int b=>obtain⟨t,rfl⟩:=g;exact Br a j b t
  |str b=>obtain⟨t,rfl⟩:=g;exact SeqAt.EqAt.int_str a j b t
  |_=>exact absurd (show ZX=ZY from q) aB
 |str a=>
  obtain⟨j,rfl⟩:=n;cases x with
  |non=>cases g;exact SeqAt.EqAt.str_none a j
  |bl b=>cases g;exact SeqAt.EqAt.str_bool a j b
  |int b=>obtain⟨t,rfl⟩:=g;exact SeqAt.EqAt.str_int a j b t
  |str b=>obtain⟨t,rfl⟩:=g;exact SeqAt.EqAt.str_str a j b t
  |_=>exact absurd (show ZX=ZY from q) aB
 |_=>exact absurd (show ZX=ZY from fy) aB
def OL(x:V)(u:aq):Bool:=match u with
 |.none=>SX .non x
 |.bool b=>SX (.bl b) x
 |.int i _=>SX (.int i) x
 |.str z _=>SX (.str z) x
 |_=>ZX
def LS{x y u}(r:ee y u)(f:rW y=ZY):OL x u=SX y x:=by
 cases y with
 |non=>cases r;rfl
 |bl b=>cases r;rfl
 |int i=>obtain⟨t,rfl⟩:=r;rfl
 |str z=>obtain⟨t,rfl⟩:=r;rfl
 |_=>exact absurd (show ZX=ZY from f) aB
def Cr{x}:∀{xs:List V} {us:List aq},dC xs us->xs.all rW=ZY->us.any (OL x)=xs.any λy=>SX y x
 |_,_,.nil,_=>rfl
 |y::xs,u::us,.cons r t,f=>by rw[eO,a_]at f;rw[fm,fm,LS r f.1,Cr t f.2]
def va{A s x v}(g:ee x v)(j:rW x=ZY):∀{xs:List V} {us:List aq},dC xs us->xs.all rW=ZY->∀u∈us,dg A s u v (OL x u)
 |_,_,.nil,_=>λu hu=>by cases hu
 |y::xs,u::us,.cons r t,f=>λn hu=>by
  rw[eO,a_]at f;rcases aL.mp hu with rfl|hu
  .rw[LS r f.1];exact XS r g f.1 j
  .exact va g j t f.2 n hu
def a0x(x:V)(xs:List V):Bool:=xs.any λy=>SX y x
def a0Z(K:ab)(g:Bool):R2:=λx y H Q=>∃p xs,y=.ref p/\(ny K H p xs\/oQ K H p xs)/\rW x=ZY/\xs.all rW=ZY/\Q (.bl (if g then !a0x x xs else a0x x xs)) H
def RC:r0 X (fo .In) (a0Z X.K ZX):=by
 intro pins s σ H x y v u Q I j z h;obtain⟨p,xs,rfl,hq,n,fs,q⟩:=h;cases z;rcases hq with hq|hq
 .obtain⟨its,r,g,B⟩:=I.list hq;refine SeqAt.in_listAt (OL x) g.isList (λw hw=>va j n r fs w (by simpa using hw)) ⟨.bl _,H,I,rfl,?_⟩;rwa[show its.toArray.any (OL x)=its.any (OL x) by simp,Cr r fs]
 .obtain⟨its,r,g,B⟩:=I.tuple hq;refine SeqAt.in_tupleAt (OL x) g (λw hw=>va j n r fs w (by simpa using hw)) ⟨.bl _,H,I,rfl,?_⟩;rwa[show its.toArray.any (OL x)=its.any (OL x) by simp,Cr r fs]
def LU:r0 X (fo .NotIn) (a0Z X.K ZY):=by
 intro pins s σ H x y v u Q I j z h;obtain⟨p,xs,rfl,hq,n,fs,q⟩:=h;cases z;rcases hq with hq|hq
 .obtain⟨its,r,g,B⟩:=I.list hq;refine SeqAt.notIn_listAt (OL x) g.isList (λw hw=>va j n r fs w (by simpa using hw)) ⟨.bl _,H,I,rfl,?_⟩;rwa[show its.toArray.any (OL x)=its.any (OL x) by simp,Cr r fs]
 .obtain⟨its,r,g,B⟩:=I.tuple hq;refine SeqAt.notIn_tupleAt (OL x) g (λw hw=>va j n r fs w (by simpa using hw)) ⟨.bl _,H,I,rfl,?_⟩;rwa[show its.toArray.any (OL x)=its.any (OL x) by simp,Cr r fs]
def LV:kr X (.builtin "len") (λxs H Q=>∃p ys,xs=[.ref p]/\(ny X.K H p ys\/oQ X.K H p ys)/\Q (.int ys.length) H):=by
 intro pins s σ H xs us Q I r h;obtain⟨p,ys,rfl,hq,q⟩:=h;obtain⟨u,rfl,n⟩:=Ki r;cases n;have hn:=LQ;rcases hq with hq|hq
 .obtain⟨its,g,j,z⟩:=I.list hq;have hlen:=g.length;exact Calls.call_len_list j.isList (by simp only[br]<;>lia) ⟨.int ys.length,H,I.tok _,⟨s.toks+1,by rw[br,hlen]⟩,q⟩
 .obtain⟨its,g,j,z⟩:=I.tuple hq;have hlen:=g.length;exact len_tuple j (by simp only[br]<;>lia) ⟨.int ys.length,H,I.tok _,⟨s.toks+1,by rw[br,hlen]⟩,q⟩
def Cs:kr X (.type "list") (λxs H Q=>∃p ys,xs=[.ref p]/\(ny X.K H p ys\/oQ X.K H p ys)/\∀l,H l=ZZ->Q (.ref l) (gw H l (.lst ys))):=by
 intro pins s σ H xs us Q I r h;obtain⟨p,ys,rfl,hq,q⟩:=h;obtain⟨u,rfl,M⟩:=Ki r;cases M;have z:∀(its:List aq),dC ys its->ys.length<=bc->∀(h':cQ) (g:Nat),(∀b o',s.heap.get? b=Z_ o'->h'.get? b=Z_ o') ->
   h'.get? s.heap.objs.size=Z_ {cls:=.type "list",dict:=ZZ,data:=.seq its.toArray g,slots:=#[]}->EP X pins σ Q (.ref s.heap.objs.size) {s with heap:=h'}:=λits j B h' g D e=>
  ⟨.ref s.heap.objs.size,_,I.laid (t':=s.toks) D (aN _) (show iz X.prog X.w _ h' _ (.lst ys) from⟨B,its,g,j,e⟩),rfl,q _ (I.hok.fresh (aN _))⟩
 rcases hq with hq|hq
 .obtain⟨its,j,F,B⟩:=I.list hq;have hlen:=j.length;obtain⟨o,G,J,n,L⟩:=F.isList;exact call_list_seq p (.inl rfl) G J L (λh' g D e=>z its j B h' g D e) (by simp only[br]<;>lia)
 .obtain⟨its,j,F,B⟩:=I.tuple hq;have hlen:=j.length;obtain⟨o,G,J,n,L⟩:=F;exact call_list_seq p (.inr rfl) G J L (λh' g D e=>z its j B h' g D e) (by simp only[br]<;>lia)
def JE:kr X (.type "tuple") (λxs H Q=>∃p ys,xs=[.ref p]/\((ny X.K H p ys/\∀l,H l=ZZ->Q (.ref l) (gw H l (.tup ys)))\/(oQ X.K H p ys/\Q (.ref p) H))):=by
 intro pins s σ H xs us Q I r h;obtain⟨p,ys,rfl,h⟩:=h;obtain⟨u,rfl,D⟩:=Ki r;cases D;rcases h with⟨g,q⟩|⟨g,q⟩
 .obtain⟨its,j,n,z⟩:=I.list g;have hlen:=j.length;refine call_tuple_list n.isList (λh' F=>?_) (by simp only[br]<;>lia);have B:cq X pins σ H {s with heap:=h'}:=I.kept (t':=s.toks) F;have G:cq X pins σ (gw H h'.objs.size (.tup ys)) {s with heap:=h'.push {cls:=.type "tuple",data:=.seq its.toArray}}:=
   B.laid (t':=s.toks) (λb o e=>aE _ e) (aN _) (show iz X.prog X.w _ _ _ (.tup ys) from⟨z,its,j,IsTup.new _ _⟩)
  exact⟨.ref h'.objs.size,_,G,rfl,q _ (B.hok.fresh (aN _))⟩
 .obtain⟨its,j,n,z⟩:=I.tuple g;exact call_tuple_same n ⟨.ref p,H,I,rfl,q⟩
def a1L(K:ab)(T:String)(x:V)(H:Hp):Prop:=match x with
 |.str _=>T="str"
 |.int _=>T="int"
 |.ref p=>(T="list"/\∃xs,ny K H p xs)\/(T="tuple"/\∃o,K.lookup p=Z_ o/\o.cls=.type "tuple"/\o.dict=ZZ) \/
   (T="dict"/\((∃g,H p=Z_ (.dK g))\/∃g,H p=Z_ (.dT g)))\/(T="set"/\∃S n,H p=Z_ (.set S n))
 |_=>False
def XT{pins σ H}{s:aA}{T x v}(I:cq X pins σ H s)(r:ee x v)(ty:a1L X.K T x H):
  s.TypeIs v T/\∀a,v=.ref a->∃ob,s.heap.get? a=Z_ ob/\ob.dict=ZZ:=by
 cases x with
 |str z=>obtain⟨t,rfl⟩:=r;cases (show T="str" from ty);exact⟨typeIs_str s z t,λ_ e=>nomatch e⟩
 |int i=>obtain⟨t,rfl⟩:=r;cases (show T="int" from ty);exact⟨typeIs_int s i t,λ_ e=>nomatch e⟩
 |ref p=>
  cases r;rcases ty with⟨rfl,xs,F⟩|⟨rfl,o,g,G,j⟩|⟨rfl,g⟩|⟨rfl,S,n,g⟩
  .obtain⟨its,_,D,_⟩:=I.list F;refine⟨D.isList.typeIs,λa e=>?_⟩;cases e;obtain⟨o,n,e,c,j,_⟩:=D;exact⟨o,e,j⟩
  .refine⟨⟨o,I.kIn p o g,G⟩,λa e=>?_⟩;cases e;exact⟨o,I.kIn _ o g,j⟩
  .have z:∃o,s.heap.get? p=Z_ o/\o.ExactDict:=by
    rcases g with⟨q,g⟩|⟨q,g⟩
    .obtain⟨_,_,_,_,o,_,_,e,ex,_⟩:=I.hok p _ g;exact⟨o,e,ex⟩
    .obtain⟨_,_,_,_,o,_,_,e,ex,_⟩:=I.hok p _ g;exact⟨o,e,ex⟩
   obtain⟨o,e,ex⟩:=z;refine⟨⟨o,e,ex.1⟩,λa B=>?_⟩;cases B;exact⟨o,e,ex.2.1⟩
  .obtain⟨o,_,_,_,e,ex,_⟩:=I.hok p _ g;refine⟨⟨o,e,ex.1⟩,λa B=>?_⟩;cases B;exact⟨o,e,ex.2.1⟩
 |_=>exact fY ty
def a1M(K:ab)(T:String)(r:V->List V->Hp->VK->Prop)(to:TE)(t:TA):TE:=λσ H Q=>to σ H λx H1=>a1L K T x H1/\t σ H1 λxs H2=>r x xs H2 Q
variable {o e:ck} {es:List ck} {to:TE} {t:TA} {name:Str} {apos cpos:Pos} {T id:String} {r:V->List V->Hp->VK->Prop}
def Qs(G:PlainAttrs T)(slot:Slot T name id)(z:typeOf (.builtin id)=pure (.type "method_descriptor"))(hm:a1K X id r)(J:PE X o to)(L:PA X (e::es) t)
  (j:1<|g6 o name X.env (dh o X.env)=dh o X.env)
  (q:1<|((gU cpos (aU (e::es) X.env)).all (λx=>!x.1)&&(backToKw cpos (Au [] X.env)).all (λx=>x.1.isSome)
   && decide ((e::es).length+([]:List Ht).length+(if ([]:List Ht).isEmpty then 0 else 1)<30))=ZY)
  (n:1<|(apos.endLine==cpos.line)=ZY)(hs:1<|aU (e::es) X.env=(ZX,dh e X.env)::aU es X.env)(g:1<|(gU cpos (aU es X.env)).any (·.1)=ZX) :
  PE X (.Call (.Attribute o name apos) (e::es) [] cpos) (a1M X.K T r to t):=by
 intro pins s σ H Q I h;refine wpAny_Call_method_late j q n rfl (jk (J pins s σ H _ I h) λv M Z=>Z24 Z λx H1 B D ty N=>?_);obtain⟨h1,h2⟩:=XT B D ty;refine⟨T,id,G,slot,z,h1,h2,?_⟩;have F:=L cpos pins M σ H1 _ B N;rw[hs]at F ⊢;refine A0 (by show (ZX||(gU cpos (aU es X.env)).any (·.1))=ZX;rw[g]<;>rfl) (Cf ?_);exact jk F λO R Z=>Z23 Z λS H2 U W Y=>hm pins R σ H2 x S v O Q U D W Y
end
end L2
namespace L2
open PySem PySem.Spec PyProof.Rows

def a1a(X:Cx)(id:String)(r:V->List V->Hp->VK->Prop):Prop:=
 ∀(pins:List (ak×Obj)) (s:aA) (σ:St) (H:Hp) (x:V) (xs:List V) (v:aq) (g:List aq) (Q:VK),cq X pins σ H s->ee x v->dC xs g->r x xs H Q ->
  bf (bI X.prog X.w) X.A (Kb (.builtin id) (v::g)) (EP X pins σ Q) X.xe s
def dC.one:∀{x:V} {us:List aq},dC [x] us->∃u,us=[u]/\ee x u:=by intro x us h;cases h with|cons r t=>cases t;exact⟨_,rfl,r⟩
def dC.two:∀{x y:V} {us:List aq},dC [x,y] us->∃u v,us=[u,v]/\ee x u/\ee y v:=by intro x y us h;cases h with|cons r t=>cases t with|cons q t=>cases t;exact⟨_,_,rfl,r,q⟩
section
variable {X:Cx} {pins:List (ak×Obj)} {σ:St} {H:Hp} {s:aA} {l b:ak} {xs ys zs:List V}
def cq.a5f{its its':List aq}{n:Nat}{f:Array aq->Array aq}{t':Nat}(I:cq X pins σ H s)(g:H l=Z_ (.lst xs))
  (e:s.heap.get? l=Z_ {cls:=.type "list",data:=.seq its.toArray n})(hf:f its.toArray=its'.toArray)(j:dC ys its')(hz:ys.length<=bc) :
  cq X pins σ (gw H l (.lst ys)) {s with heap:=s.heap.update l (GN f),toks:=t'}:=by
 have q:=PySem.IsL.update e f;rw[hf]at q;refine I.write (x:=l) (e:=l) (by rw[g];exact trivial) (.inl rfl) (λb' u z B=>(Heap.get?_update_other s.heap (GN f) (aG z)).trans B) ⟨_,q⟩ ?_;exact⟨hz,its',_,j,q⟩
def cq.a5D{its}{t':Nat}(I:cq X pins σ H s)(g:dC ys its)(hz:ys.length<=bc):
  cq X pins σ (gw H s.heap.objs.size (.lst ys)) {s with heap:=s.heap.push {cls:=.type "list",data:=.seq its.toArray},toks:=t'}:=
 I.laid (λ_ _ q=>aE _ q) (aN _) ⟨hz,its,0,g,b8 _ rfl⟩
def cq.fresh(I:cq X pins σ H s):H s.heap.objs.size=ZZ:=I.hok.fresh (aN _)
def cq.a5n(I:cq X pins σ H s)(g:H l=Z_ (.lst xs)):xs.length<=bc/\∃(its:List aq) (n:Nat),dC xs its/\xs.length=its.length/\s.heap.get? l=Z_ {cls:=.type "list",data:=.seq its.toArray n}:=by obtain⟨z,its,n,r,e⟩:=I.hok l _ g;exact⟨z,its,n,r,r.length,e⟩
def Ng{n:Nat}(h:n<=bc):lU n=ZX:=by unfold lU;exact decide_eq_false (by lia)
end
section
variable {X:Cx}
def VP:V->List V->Hp->VK->Prop:=λx g H Q=>∃l xs y,x=.ref l/\g=[y]/\H l=Z_ (.lst xs)/\xs.length<bc/\Q .non (gw H l (.lst (xs++[y])))
def RD:a1a X "list.append" VP:=by intro pins s σ H x vs v us Q I j B h;obtain⟨l,xs,y,rfl,rfl,g,hz,q⟩:=h;cases j;obtain⟨u,rfl,D⟩:=B.one;obtain⟨z,its,n,r,hl,e⟩:=I.a5n g;refine call_meets F.slot_list_append ⟨_,e,rfl⟩ F.entry_list_append (F.args_list_append_2 _ _) (PySem.list_append l its.toArray n u (by rw[br];lia)) ⟨e,?_⟩;refine⟨.non,_,I.a5f (its':=its++[u]) g e (by simp) (r.append (.cons D .nil)) ?_,rfl,q⟩;rw[aK,List.length_singleton];lia
end
end L2
namespace L2
open PySem PySem.Spec PyProof.Rows

def dC.ints:∀{ns:List Int} {us:List aq},dC (ns.map V.int) us->IntsAre us ns
 |[],us,h=>by rw[Av]at h;cases h;exact IntsAre.nil
 |n::ns,us,h=>by
  rw[aQ]at h;cases h with
  |cons r t=>obtain⟨k,rfl⟩:=r;exact IntsAre.cons n k (dC.ints t)
def dC.bls:∀{g:List Bool} {us:List aq},dC (g.map V.bl) us->us=g.map qY
 |[],us,h=>by rw[Av]at h;cases h;rfl
 |b::g,us,h=>by
  rw[aQ]at h;cases h with
  |cons r t=>cases r;rw[dC.bls t,aQ]
def dC.a4V{a us}(r:dC [V.ref a] us):us=[bp a]:=by
 cases r with
 |cons r t=>cases t;cases r;rfl
section
variable {prog:bF} {w:cD} {A:cB} {E:aq->aA->Prop} {s:aA} {l:ak} {its:List aq} {ns:List Int} {Q:aq->aA->Prop}
def VQ(n:A.handled=ZZ)(g:s.heap.IsList l its.toArray)(hi:IntsAre its ns)
  (h:∀h' tk t',(∀b o,s.heap.get? b=Z_ o->h'.get? b=Z_ o)->Q (.int ns.sum t') {s with heap:=h',toks:=tk}):bf (bI prog w) A (Kb (.builtin "sum") [.ref l]) Q E s:=by
 obtain⟨xs,e⟩:=hi.allInts.items;have j:numsOf (intItems xs).toList=ns:=by rw[<-e];exact hi.numsOf
 rw[nums_intItems]at j;rw[e]at g;refine PySem.sum_intListG n g λh' tk t' q=>?_;have:=h h' tk t' q;rwa[preSum_eq,qd (by simp),j]
def VR(B:A.handled=ZZ)(q:s.heap.IsList l its.toArray)(hi:IntsAre its ns)(g:0<ns.length)
  (h:∀h' tk M t',(∀b o,s.heap.get? b=Z_ o->h'.get? b=Z_ o)->M∈ns->(∀a,a∈ns->a<=M)->Q (.int M t') {s with heap:=h',toks:=tk}):bf (bI prog w) A (Kb (.builtin "max") [.ref l]) Q E s:=by
 obtain⟨xs,e⟩:=hi.allInts.items;have z:numsOf (intItems xs).toList=ns:=by rw[<-e];exact hi.numsOf
 rw[nums_intItems]at z;subst z;rw[e]at q;have n:0<xs.size:=by simpa using g
 refine PySem.max_intList B q n λv h' tk D F=>?_;obtain⟨t,rfl⟩:=intItems_at D;obtain⟨h1,h2⟩:=argBest_gt (numAt xs) (xs.size-1);refine h h' tk _ t F ?_ λa G=>?_
 .rw[numAt_eq];exact PySem.getD_mem (by rw[ah,mZ];lia)
 .obtain⟨j,I,rfl⟩:=mem_getD G;rw[ah,mZ]at I;rw[<-numAt_eq];exact h2 j (by lia)
end
section
variable {X:Cx}
def ZF(K:ab):List V->Hp->VK->Prop:=λg H Q=>∃(a:ak) (ns:List Int),g=[V.ref a]/\ny K H a (ns.map V.int)/\Q (.int ns.sum) H
def ZG(K:ab):List V->Hp->VK->Prop:=λg H Q=>∃(a:ak) (ns:List Int),g=[V.ref a]/\ny K H a (ns.map V.int)/\0<ns.length/\∀m,m∈ns->(∀y,y∈ns->y<=m)->Q (.int m) H
def XU(g:X.calm=ZY):kr X (.builtin "sum") (ZF X.K):=by intro pins s σ H vs us Q I r h;obtain⟨a,ns,rfl,j,q⟩:=h;obtain⟨its,n,z,_⟩:=I.list j;rw[dC.a4V r];exact VQ (I.ok.hd g) z.isList n.ints λh' tk t' B=>⟨.int _,H,I.kept B,⟨_,rfl⟩,q⟩
def XW(j:X.calm=ZY):kr X (.builtin "max") (ZG X.K):=by intro pins s σ H vs us Q I r h;obtain⟨a,ns,rfl,n,g,q⟩:=h;obtain⟨its,z,B,_⟩:=I.list n;rw[dC.a4V r];exact VR (I.ok.hd j) B.isList z.ints g λh' tk m t' D h1 h2=>⟨.int _,H,I.kept D,⟨_,rfl⟩,q m h1 h2⟩
end
section
variable {X:Cx}
def XX(K:ab):V->List V->Hp->VK->Prop:=λx xs H Q=>∃(a:ak) (ys:List V) (y:V) (j:Nat) (z:V),x=V.ref a/\xs=[y]/\ny K H a ys/\rW y=ZY/\ys.all rW=ZY/\ys[j]?=Z_ z/\SX z y=ZY /\
 (∀(m:Nat) (g:V),m<j->ys[m]?=Z_ g->SX g y=ZX)/\Q (.int (j:Nat)) H
def Qt{ys:List V}(f:ys.all rW=ZY){j:Nat}{z}(h:ys[j]?=Z_ z):rW z=ZY:=cb.mp f z (aJ h)
nonrec def Tr:a1K X "list.index" (XX X.K):=by
 intro pins s σ H x xs v us Q I rx G h;obtain⟨a,ys,y,j,z,rfl,rfl,hs,fy,g,hz,J,L,q⟩:=h;cases rx;cases G with
 |cons ry rt=>
  rename_i uy ut;cases rt;obtain⟨its,D,⟨⟨cls,dd,data,sl⟩,n,ho,hc,hdn,hd⟩,hlen⟩:=I.list hs;simp only at hc hd;subst hc hd;obtain⟨u,hu,ru⟩:=D.get hz;obtain⟨M,N⟩:=ax.mp hu;have hvl:=D.length;have hj:j<its.toArray.size:=by simpa using M
  have hsl:=ko;refine call_meets PySem.F.slot_list_index ⟨_,ho,rfl⟩ PySem.F.entry_list_index (PySem.F.args_list_index_2 _ _)
   (SeqAt.list_indexAt a its.toArray n dd sl uy (OL y) j hj (by lia) ?_ ?_) ⟨ho,λu' O=>va ry fy D g u' (by simpa using O),?_⟩
  .have R:its.toArray[j]=u:=by simpa using N
   rwa[R,LS ru (Qt g hz)]
  .intro m hm S;have hml:m<its.length:=by simpa using hm
   have U:m<ys.length:=by lia
   have B:ys[m]?=Z_ ys[m]:=aj U;obtain⟨u2,W,Y⟩:=D.get B;obtain⟨_,Z⟩:=ax.mp W;have R:its.toArray[m]=u2:=by simpa using Z
   rw[R,LS Y (Qt g B)];exact L m _ S B
  .exact⟨.int (j:Nat),H,I.tok _,⟨_,rfl⟩,q⟩
end
def Nh{prog w A E}{s:aA}{l items Q}(g:s.heap.IsList l items)
  (h:∀s₂:aA,s₂={s with heap:=s.heap.push {cls:=.type "list_iterator",data:=.fields #[.ref l,.int 0 0]}} ->
   (s₂.heap.IsListIter s.heap.objs.size l 0/\s₂.heap.IsList l items)->l≠s.heap.objs.size->Q (.ref s.heap.objs.size) s₂):bf (bI prog w) A (pyIter (.ref l)) Q E s:=by
 have j:l<s.heap.objs.size:=by obtain⟨_,e,_⟩:=g;exact b7 e
 exact Aw g (h _ rfl ⟨⟨_,b8 _ rfl,rfl,rfl⟩,g.push _⟩ (b_ j))
def Fm{prog w A}{n:List Bool}{its:List aq}(e:its=n.map qY):
  TruthOf prog w A (λi v=>its.toArray[i]?=Z_ v) (λi=>n.getD i ZX):=λi v s Q E q z=>by
 have g:its[i]?=Z_ v:=by simpa using q
 rw[e,aR]at g;obtain⟨b,B,rfl⟩:=gu.mp g;have D:n.getD i ZX=b:=by rw[aI,B]<;>rfl
 have j:Q (n.getD i ZX) s:=z;rw[D]at j;exact mM j
def Kn:∀g:List Bool,(bL g.length).any (λi=>g.getD i ZX)=g.any id
 |[]=>rfl
 |b::g=>by rw[aZ,qe,fm,List.any_map,fm,<-Kn g];all_goals rfl
def Ko:∀g:List Bool,(bL g.length).all (λi=>g.getD i ZX)=g.all id
 |[]=>rfl
 |b::g=>by rw[aZ,qe,eO,kY,eO,<-Ko g];all_goals rfl
section
variable {X:Cx}
def a1b(K:ab):List V->Hp->VK->Prop:=λj H Q=>∃(a:ak) (g:List Bool),j=[V.ref a]/\ny K H a (g.map V.bl)/\Q (.bl (g.any id)) H
def a1c(K:ab):List V->Hp->VK->Prop:=λj H Q=>∃(a:ak) (g:List Bool),j=[V.ref a]/\ny K H a (g.map V.bl)/\Q (.bl (g.all id)) H
def XY(z:X.calm=ZY):kr X (.builtin "any") (a1b X.K):=by
 intro pins s σ H vs us Q I r h;obtain⟨a,bs,rfl,B,q⟩:=h;obtain⟨its,D,F,_⟩:=I.list B;rw[dC.a4V r];have j:=D.bls;refine call_any_walk (Nh F.isList λs₂ G st g=>?_);subst G;refine⟨_,_,_,_,_,_,_,rfl,Walks.list (A:=X.A.in1) (I.ok.hd z) _ a g its.toArray,st,Fm j,λh' tk J=>?_⟩;refine⟨.bl _,H,I.kept λb o n=>J b o (λhmem=>?_) (aE _ n),?_,q⟩
 .rcases aL.mp hmem with L|hmem
  .exact absurd (L▸b7 n) (gC _)
  .cases hmem
 .show qY _=qY _;rw[<-Kn,j,br,ah]
def XZ(z:X.calm=ZY):kr X (.builtin "all") (a1c X.K):=by
 intro pins s σ H vs us Q I r h;obtain⟨a,bs,rfl,B,q⟩:=h;obtain⟨its,D,F,_⟩:=I.list B;rw[dC.a4V r];have j:=D.bls;refine call_all_walk (Nh F.isList λs₂ G st g=>?_);subst G;refine⟨_,_,_,_,_,_,_,rfl,Walks.list (A:=X.A.in1) (I.ok.hd z) _ a g its.toArray,st,Fm j,λh' tk J=>?_⟩;refine⟨.bl _,H,I.kept λb o n=>J b o (λhmem=>?_) (aE _ n),?_,q⟩
 .rcases aL.mp hmem with L|hmem
  .exact absurd (L▸b7 n) (gC _)
  .cases hmem
 .show qY _=qY _;rw[<-Ko,j,br,ah]
end
end L2
namespace L2
open PySem PySem.Spec PyProof.Rows
abbrev Ts(h:cQ)(c:ak)(v:Option aq):Prop:=h.IsCell c v
def a1d(scope g:gn):gn:={scope with names:=scope.names.map λ(n,k)=>if (k==.free&&g.kind==.function&&g.names.lookup n==Z_ .cell) then (n,.cell) else (n,k)}
def gK(cells:List (Str×ak)):List (Str×jy)->List (Str×ak)->List (Str×ak)
 |[],g=>g
 |(n,k)::r,g=>if k==.free then gK cells r ((n,(cells.lookup n).getD 0)::g) else gK cells r g
def Ct(env:Env)(f:Str×jy->List (Str×ak)->Sem (ForInStep (List (Str×ak))))
  (hf:∀n k c,f (n,k) c=if k==.free then (do let a <-cellOf env n;pure (.yield ((n,a)::c))) else pure (.yield c)) :
  ∀(names:List (Str×jy)) (acc:List (Str×ak)),(∀y∈names,y.2=.free->∃c,env.cells.lookup y.1=Z_ c)->forIn names acc f=pure (gK env.cells names acc)
 |[],acc,_=>by rw[v5];rfl
 |(n,k)::r,acc,h=>by
  rw[AV,hf];have j:=λacc=>Ct env f hf r acc λy z=>h y (ba _ z);unfold gK;by_cases g:(k==ju)=ZY
  .rw[i0p g,i0p g];obtain⟨c,q⟩:=h (n,k) bG (by simpa using g);have e:cellOf env n=pure c:=by unfold cellOf;rw[q]
   rw[e];have B:(env.cells.lookup n).getD 0=c:=by rw[q];rfl
   rw[B];exact j _
  .rw[i0n g,i0n g];exact j _
def O_{scope:gn}{env:Env}(h:∀y∈scope.names,y.2=.free->∃c,env.cells.lookup y.1=Z_ c):closureFor scope env=pure (gK env.cells scope.names []):=by simp only[closureFor];rw[Ct env _ (λn k c=>rfl) scope.names [] h];rfl
def Bz{α:Type}:∀{l:List (Str×α)} {n:Str} {c:α},(n,c)∈l->∃g,l.lookup n=Z_ g
 |(k,v)::r,n,c,h=>by
  rw[cX];cases j:n==k with
  |true=>exact⟨_,rfl⟩
  |false=>
   rcases aL.mp h with e|h
   .cases e;simp at j
   .exact Bz h
nonrec def tM{cells:List (Str×ak)}:∀{names:List (Str×jy)} {acc:List (Str×ak)} {n:Str} {c:ak},(n,c)∈gK cells names acc->(n,c)∈acc\/((n,.free)∈names/\c=(cells.lookup n).getD 0)
 |[],_,_,_,h=>.inl h
 |(m,k)::r,acc,n,c,h=>by
  unfold gK at h;split at h
  .rename_i g;have g:k=.free:=by simpa using g
   rcases tM h with h|⟨h1,h2⟩
   .rcases aL.mp h with e|h
    .cases e;exact .inr ⟨g▸bG,rfl⟩
    .exact .inl h
   .exact .inr ⟨ba _ h1,h2⟩
  .rcases tM h with h|⟨h1,h2⟩
   .exact .inl h
   .exact .inr ⟨ba _ h1,h2⟩
def yy{cells}:∀{names:List (Str×jy)} {acc:List (Str×ak)} {p:Str×ak},p∈acc->p∈gK cells names acc
 |[],_,_,h=>h
 |(m,k)::r,acc,p,h=>by
  unfold gK;split
  .exact yy (ba _ h)
  .exact yy h
def yz{cells:List (Str×ak)}:∀{names:List (Str×jy)} {acc:List (Str×ak)} {n:Str},(n,.free)∈names->(n,(cells.lookup n).getD 0)∈gK cells names acc
 |(m,k)::r,acc,n,h=>by
  unfold gK;rcases aL.mp h with e|h
  .cases e;exact yy bG
  .split
   .exact yz h
   .exact yz h
nonrec def vc:∀{names:List (Str×jy)} {h:cQ} {acc:List (Str×ak)} {x:Str} {c:ak},(x,c)∈fK h.objs.size names acc ->
  (x,c)∈acc\/((x,.cell)∈names/\h.objs.size<=c/\Ts (xX h names) c ZZ)
 |[],_,_,_,_,h=>.inl h
 |(n,k)::r,h,acc,x,c,hm=>by
  unfold fK at hm;unfold xX;split at hm
  .rename_i g;rw[i0p g];have g:k=.cell:=by simpa using g
   rw[<-cU h {cls:=.type "cell",data:=.cell ZZ}]at hm;rcases vc hm with hm|⟨h1,h2,j⟩
   .rcases aL.mp hm with e|hm
    .cases e;exact .inr ⟨g▸bG,aN _,_,DQ r _ _ _ (b8 _ rfl),rfl⟩
    .exact .inl hm
   .rw[cU]at h2;exact .inr ⟨ba _ h1,xY h2,j⟩
  .rename_i g;rw[i0n g];rcases vc hm with hm|⟨h1,h2,j⟩
   .exact .inl hm
   .exact .inr ⟨ba _ h1,h2,j⟩
def A3:∀{names:List (Str×jy)} {n:Nat} {acc:List (Str×ak)} {p:Str×ak},p∈acc->p∈fK n names acc
 |[],_,_,_,h=>h
 |(m,k)::r,n,acc,p,h=>by
  unfold fK;split
  .exact A3 (ba _ h)
  .exact A3 h
def DY:∀{names:List (Str×jy)} {n:Nat} {acc:List (Str×ak)} {x:Str},(x,.cell)∈names->∃c,(x,c)∈fK n names acc
 |(m,k)::r,n,acc,x,h=>by
  unfold fK;rcases aL.mp h with e|h
  .cases e;exact⟨n,A3 bG⟩
  .split
   .exact DY h
   .exact DY h
nonrec def DZ:∀{names:List (Str×jy)} {h:cQ} {acc:List (Str×ak)} {x y:Str} {c:ak},(∀p∈acc,p.2<h.objs.size)->(∀x y c,(x,c)∈acc->(y,c)∈acc->x=y) ->
  (x,c)∈fK h.objs.size names acc->(y,c)∈fK h.objs.size names acc->x=y
 |[],_,_,_,_,_,_,hi,h1,h2=>hi _ _ _ h1 h2
 |(n,k)::r,h,acc,x,y,c,g,hi,h1,h2=>by
  unfold fK at h1 h2;split at h1
  .rename_i j;rw[i0p j]at h2;rw[<-cU h {cls:=.type "cell",data:=.cell ZZ}]at h1 h2;refine DZ (h:=h.push _) (λp hp=>?_) (λx y c a b=>?_) h1 h2
   .rw[cU];rcases aL.mp hp with rfl|hp
    .exact rL _
    .exact xZ (g p hp)
   .rcases aL.mp a with e|a<;>rcases aL.mp b with q|b
    .cases e;cases q;rfl
    .cases e;exact absurd (g _ b) (gC _)
    .cases q;exact absurd (g _ a) (gC _)
    .exact hi _ _ _ a b
  .rename_i j;rw[i0n j]at h2;exact DZ g hi h1 h2
def Ni{M A E}{s:aA}{scope:gn}{globals closure qual func code around builtins Q}
  (h:Q (newEnv scope s.heap.objs.size globals (fK (s.heap.objs.size+1) scope.names closure) qual func code (Z_ around) builtins)
   {s with heap:=xX (s.heap.push {cls:=.type "dict",data:=.dict #[]}) scope.names}) :
  bf M A (newFunctionEnv scope globals closure [] qual func code (Z_ around) builtins) Q E s:=by
 simp only[newFunctionEnv,Option.isSome_some,if_true];refine aa (wpAny_alloc ?_);refine aa (wpAny_layCells _ (λn k c=>rfl) scope.names closure _ _ ?_);rw[show ({s with heap:=s.heap.push {cls:=.type "dict",data:=.dict #[]}}:aA).heap.objs.size=s.heap.objs.size+1 from cU ..];rw[v5];exact aa (aD (aD h))
def yA{g:gn}:∀{names:List (Str×jy)} {x:Str} {k:jy},
  (names.map λ(n,k)=>if (k==ju&&g.kind==.function&&g.names.lookup n==Z_ .cell) then (n,qA) else (n,k)).lookup x=Z_ k ->
  ∃z,names.lookup x=Z_ z/\(k=z\/(z=.free/\k=.cell))
 |[],_,_,h=>by simp at h
 |(n,k₀)::r,x,k,h=>by
  have B:=@yA g r x k;have h':mf x ((if (k₀==ju&&g.kind==.function&&g.names.lookup n==Z_ .cell)=ZY then (n,qA) else (n,k₀))::(r.map _))=Z_ k:=h;cases q:x==n with
  |true=>
   simp only[cX,q];by_cases j:(k₀==ju&&g.kind==.function&&g.names.lookup n==Z_ .cell)=ZY
   .rw[i0p j]at h';simp only[cX,q]at h';cases h';simp only[a_,beq_iff_eq]at j;exact⟨k₀,rfl,.inr ⟨j.1.1,rfl⟩⟩
   .rw[i0n j]at h';simp only[cX,q]at h';cases h';exact⟨_,rfl,.inl rfl⟩
  |false=>
   simp only[cX,q];by_cases j:(k₀==ju&&g.kind==.function&&g.names.lookup n==Z_ .cell)=ZY
   .rw[i0p j]at h';simp only[cX,q]at h';exact B h'
   .rw[i0n j]at h';simp only[cX,q]at h';exact B h'
structure xD(N:List Str)(sc scope:gn)(own:List (Str×Nat)):Prop where
 kind:scope.kind=.function
 uniq:∀y∈scope.names,scope.names.lookup y.1=Z_ y.2
 ix:∀p∈own,N[p.2]?=Z_ p.1
 free:∀y∈scope.names,y.2=.free->sc.names.lookup y.1=Z_ .cell\/sc.names.lookup y.1=Z_ .free
 own:∀y∈scope.names,y.2=.local\/y.2=.cell->y.1∈own.map (·.1)\/y.1∉N
def uj(σ:St):List Nat->St
 |[]=>σ
 |v::g=>(uj σ g).set v ZZ
def l7(σ:St):∀vs:List Nat,(uj σ vs).length=σ.length
 |[]=>rfl
 |v::vs=>by unfold uj;rw[d4,l7 σ vs]
def D_{σ}{i:Nat}{x}:∀{vs:List Nat},(uj σ vs)[i]?=Z_ (Z_ x)->σ[i]?=Z_ (Z_ x)/\i∉vs
 |[],h=>⟨h,by simp⟩
 |v::vs,h=>by
  unfold uj at h;by_cases hi:v=i
  .subst hi;by_cases g:v<(uj σ vs).length
   .rw[kX g]at h;cases h
   .rw[cv (by simpa using g)]at h;cases h
  .rw[dk hi]at h;obtain⟨h1,h2⟩:=D_ h;exact⟨h1,by simp only[aL,not_or];exact⟨λe=>hi e.symm,h2⟩⟩
abbrev Cx.blk(X:Cx)(s:aA)(H:Hp)(scope:gn)(g:Env)(j:List ak):Cx:={X with s_0:=s,H_0:=H,env:=g,outer:=X.stack,ex:=j,fn:=λx=>scope.names.lookup x==Z_ .cell,pn:=[],xe:=λ_ _=>False}
section
variable {X:Cx} {pins:List (ak×Obj)} {σ:St} {H:Hp} {s:aA}
def Nj{scope:gn}{own:List (Str×Nat)}{fp}(I:cq X pins σ H s)(ok:xD X.N X.env.scope scope own)(hN:X.N.Nodup)(D:∀b∈fp,Cq X pins H b/\b<s.heap.objs.size):
  cq (X.blk s H scope (cH scope (fK (s.heap.objs.size+1) scope.names (gK X.env.cells scope.names [])) s.heap.objs.size X.env) fp) [] (uj σ (own.map (·.2))) H {s with heap:=xX (s.heap.push {cls:=.type "dict",data:=.dict #[]}) scope.names}:=by
 have O:∀y∈scope.names,y.2=.free->∃c,X.env.cells.lookup y.1=Z_ c:=λy hy e=>by
  rcases ok.free y hy e with k|k
  .exact I.ok.has _ (.inl k)
  .exact I.ok.has _ (.inr k)
 generalize j:cH scope (fK (s.heap.objs.size+1) scope.names (gK X.env.cells scope.names [])) s.heap.objs.size X.env=g;have kp:∀b o,s.heap.get? b=Z_ o->(xX (s.heap.push {cls:=.type "dict",data:=.dict #[]}) scope.names).get? b=Z_ o:=λb o e=>DQ _ _ _ _ (aE _ e);have hL:g.locals=s.heap.objs.size:=by rw[<-j];rfl
 have B:g.cells=fK (s.heap.objs.size+1) scope.names (gK X.env.cells scope.names []):=by rw[<-j];rfl
 have R:g.scope=a1d scope X.env.scope:=by rw[<-j];rfl
 rw[<-cU s.heap {cls:=.type "dict",data:=.dict #[]}]at B;have Z:∀{y c},(y,c)∈gK X.env.cells scope.names []->X.env.cells.lookup y=Z_ c/\c<s.heap.objs.size:=λ{y c} hm=>by
  rcases tM hm with hm|⟨h1,rfl⟩
  .cases hm
  .obtain⟨c,hc⟩:=O _ h1 rfl;rw[hc];obtain⟨w,z⟩:=I.cell _ _ hc;exact⟨rfl,z.lt⟩
 have S:∀{y c},g.cells.lookup y=Z_ c->(X.env.cells.lookup y=Z_ c/\c<s.heap.objs.size)\/(s.heap.objs.size+1<=c/\Ts (xX (s.heap.push {cls:=.type "dict",data:=.dict #[]}) scope.names) c ZZ):=λ{y c} e=>by
  rw[B]at e;rcases vc (cN e) with hm|⟨_,h2,h3⟩
  .exact .inl (Z hm)
  .rw[cU]at h2;exact .inr ⟨h2,h3⟩
 have look:∀{y},scope.names.lookup y=Z_ .free->∃c,g.cells.lookup y=Z_ c/\X.env.cells.lookup y=Z_ c:=λ{y} hl=>by
  have hy:(y,ju)∈scope.names:=cN hl;obtain⟨c',e'⟩:=Bz (A3 (names:=scope.names) (n:=(s.heap.push {cls:=.type "dict",data:=.dict #[]}).objs.size) (yz (cells:=X.env.cells) (acc:=[]) hy));rw[<-B]at e';refine⟨c',e',?_⟩;rw[B]at e';rcases vc (cN e') with hm|⟨h1,_,_⟩
  .exact (Z hm).1
  .have:=ok.uniq _ h1;rw[hl]at this;cases this
 have okB:(X.blk s H scope g fp).Ok:=by
  refine⟨I.ok.mod,by show g.scope.kind=_;rw[R];exact ok.kind,by show g.globals=_;rw[<-j];exact I.ok.glob,by show g.builtins=_;rw[<-j];exact I.ok.blt,by show s.heap.objs.size<=g.locals;rw[hL];exact aN _,
   λy z c J L=>?_,λy hy=>?_,λy c z e=>?_,I.ok.hd,I.ok.frames,.inl rfl,λb M=>⟨?_,λy c e z=>?_⟩,I.bs,c6 I.ok.bsz I.sz,λb o e M=>?_,λb M z=>?_,I.stack,I.a4r⟩
  .have J:g.cells.lookup y=Z_ c:=J;have L:g.cells.lookup z=Z_ c:=L;rw[B]at J L;refine DZ (λp Y=>?_) (λy z c a b=>I.ok.inj y z c (Z a).1 (Z b).1) (cN J) (cN L);rw[cU];exact xZ (Z (y:=p.1) (c:=p.2) Y).2
  .show ∃c,g.cells.lookup y=Z_ c;have F:∀k,g.kindOf y=Z_ k->(k=.cell\/k=.free)->∃c,g.cells.lookup y=Z_ c:=λk U W=>by
    unfold Env.kindOf at U;rw[R]at U;obtain⟨k',e,r⟩:=yA U;have:k'=.cell\/k'=.free:=by
     rcases r with rfl|⟨rfl,_⟩
     .exact W
     .exact .inr rfl
    rcases this with rfl|rfl
    .obtain⟨c,hm⟩:=DY (n:=(s.heap.push {cls:=.type "dict",data:=.dict #[]}).objs.size) (acc:=gK X.env.cells scope.names []) (cN e);obtain⟨c',e'⟩:=Bz hm;exact⟨c',by rwa[B]⟩
    .obtain⟨c,h1,_⟩:=look e;exact⟨c,h1⟩
   rcases hy with hy|hy
   .exact F _ hy (.inl rfl)
   .exact F _ hy (.inr rfl)
  .have z:(scope.names.lookup y==Z_ qA)=ZY:=z;have z:scope.names.lookup y=Z_ .cell:=by simpa using z
   have e:g.cells.lookup y=Z_ c:=e;rw[B]at e;rcases vc (cN e) with hm|⟨_,h2,_⟩
   .rcases tM hm with hm|⟨h1,_⟩
    .cases hm
    .have q:=ok.uniq _ h1;rw[z]at q;cases q
   .rw[cU]at h2;exact xY h2
  .show b≠g.locals;rw[hL];exact b_ (D b M).2
  .have e:g.cells.lookup y=Z_ c:=e;rcases S e with⟨h1,_⟩|⟨h1,_⟩
   .exact (D b M).1.2.2.2.2.1 y c h1 z
   .have h2:s.heap.objs.size+1<=b:=by rw[<-z];exact h1
    exact absurd (bV (D b M).2 (xY h2)) (gC _)
  .rcases (D b M).1.2.2.2.1 with z|z
   .exact I.ok.a4T b o e z
   .exact absurd (bV (b7 e) (c6 I.ok.bsz z)) (gC _)
  .rcases aL.mp (I.a4o b z) with z|z
   .exact (D b M).1.2.1 z
   .exact (D b M).1.2.2.1 z
 refine⟨okB,rfl,I.bare,Un.kept kp,⟨λ_=>ZZ,?_,λi y av J L e3=>?_⟩,λy c e=>?_,?_,λy c e=>?_,λp Y=>?_,I.hok.kept kp,by rw[l7];exact I.len⟩
 .show Heap.Ns _ g.locals _;rw[hL];exact Heap.Ns.keeps (Heap.Ns.new ..) λb o e=>DQ _ _ _ _ e
 .obtain⟨L,hne⟩:=D_ L;have G:scope.names.lookup y=Z_ .free/\(g.kindOf y=Z_ .cell\/g.kindOf y=Z_ .free):=by
   have F:∀k,g.scope.names.lookup y=Z_ k->k=.local\/k=.cell\/k=.free->scope.names.lookup y=Z_ .free/\(g.kindOf y=Z_ .cell\/g.kindOf y=Z_ .free):=λk U W=>by
    have hk0:=U;rw[R]at U;obtain⟨k',e,r⟩:=yA U;have no:¬(k'=.local\/k'=.cell):=λhh=>by
     rcases ok.own _ (cN e) hh with e'|e'
     .obtain⟨p,Y,hpy⟩:=aF.mp e';have e3:=ok.ix p Y;have:p.1=y:=hpy;rw[this]at e3;exact hne (aF.mpr ⟨p,Y,Hx hN e3 J⟩)
     .exact e' (aJ J)
    rcases r with rfl|⟨rfl,rfl⟩
    .rcases W with rfl|rfl|rfl
     .exact absurd (.inl rfl) no
     .exact absurd (.inr rfl) no
     .exact⟨e,.inr hk0⟩
    .exact⟨e,.inl hk0⟩
   have e3:SU g.scope y:=e3;rcases e3 with e3|e3|e3
   .exact F _ e3 (.inl rfl)
   .exact F _ e3 (.inr (.inl rfl))
   .exact F _ e3 (.inr (.inr rfl))
  obtain⟨m,hn,hl⟩:=I.loc;have hvis:SU X.env.scope y:=(ok.free _ (cN G.1) rfl).elim (λk=>.inr (.inl k)) (λk=>.inr (.inr k));obtain⟨w,r,q⟩:=hl i y av J L hvis;refine⟨w,r,.inr ⟨G.2,?_⟩⟩;obtain⟨c,h1,h2⟩:=look G.1;rcases q with⟨k,_⟩|⟨_,c',e',z⟩
  .have k:X.env.scope.names.lookup y=Z_ .local:=k;rcases ok.free _ (cN G.1) rfl with k'|k'<;>rw[show X.env.scope.names.lookup y=_ from k']at k<;>cases k
  .rw[h2]at e';cases e';exact⟨c,h1,z.keeps kp⟩
 .have e:g.cells.lookup y=Z_ c:=e;rcases S e with⟨h1,_⟩|⟨_,z⟩
  .obtain⟨w,z⟩:=I.cell y c h1;exact⟨w,z.keeps kp⟩
  .exact⟨_,z⟩
 .show H g.locals=ZZ;rw[hL];exact I.hok.fresh (aN _)
 .have e:g.cells.lookup y=Z_ c:=e;rcases S e with⟨h1,_⟩|⟨h1,_⟩
  .exact I.a2D y c h1
  .exact I.hok.fresh (xY h1)
 .exact absurd (show p∈([]:List (ak×Obj))++[] from Y) (by simp)
def X_{E D}{xs:List V}{y v Q}(I:cq X pins σ H s)(j:H D=Z_ (.lst xs))(hz:xs.length<bc)(r:ee y v)
  (h:∀s',cq X pins σ (gw H D (.lst (xs++[y]))) s'->Q .none s'):bf (bI X.prog X.w) X.A (Kb (.builtin "list.append") [.ref D,v]) Q E s:=by
 obtain⟨hz',its,n,z,e⟩:=I.hok D _ j;have hl:=z.length;refine append_at (hsz:=by rw[br];lia) e λh' B g=>?_;refine h {s with heap:=h'} (I.write (t':=s.toks) (by rw[j];trivial) (.inl rfl) (λb u F q=>(B.2 b F).trans q) ⟨_,g⟩ ⟨by rwa[aK],its++[v],n+1,z.append (.cons r .nil),?_⟩);rw[g];simp
def Z1(X:Cx)(g:List ck)(t:TT):Prop:=
 ∀(pins:List (ak×Obj)) (s:aA) (σ:St) (H:Hp) (Q:Bool->Hp->Prop),cq X pins σ H s->t σ H Q ->
  bf (bI X.prog X.w) X.A (forIn g ZY λc r=>if r=ZY then do let ok <-isTrue c X.env (dh c X.env);pure (x_ ok) else pure (x_ r)) (TP X pins σ Q) X.xe s
def a1e:TT:=λ_ H Q=>Q ZY H
def VS:Z1 X [] a1e:=λ_ _ _ H _ I h=>wpAny_tests_nil ⟨H,I,h⟩
def VT{c t}(h:PT X c t):Z1 X [c] t:=λpins s σ H Q I hw=>wpAny_tests_one (h pins s σ H Q I hw)
end
def RE{α:Type}{t:Sem α}{Q g:α->aA->Prop}{M:Model}{A:cB}{E:aq->aA->Prop}{s:aA}(h:bf M A t Q (λ_ _=>False) s)(j:∀a s,Q a s->g a s):bf M A t g E s:=kC h j λ_ _ z=>fY z
def LW{prog w A R s g target iter j scope pos q acc env}(I:Nat->aA->Prop)
  (turn:∀n s,I n s->bf (bI prog w) A (qy q) (λr s₁=>match r with
   |none=>R (.ok .next) s₁
   |some v=>bf (bI prog w) A (DP target q v) (λ_ s₁'=>bf (bI prog w) A (Ka target env v) (λ_ s₂=>
     bf (bI prog w) A (forIn j ZY λc r=>if r=ZY then do let ok <-isTrue c env (dh c env);pure (x_ ok) else pure (x_ r)) (λok s₃=>
      if ok=ZY then bf (bI prog w) A (dh g env) (λx s₄=>bf (bI prog w) A (Kb (.builtin "list.append") [acc,x]) (λ_ s₅=>∃m,m<n/\I m s₅) (notedBy (bI prog w) A env λe s'=>R (.error e) s') s₄) (notedBy (bI prog w) A env λe s'=>R (.error e) s') s₃
      else ∃m,m<n/\I m s₃) (notedBy (bI prog w) A env λe s'=>R (.error e) s') s₂) (notedBy (bI prog w) A env λe s'=>R (.error e) s') s₁') (notedBy (bI prog w) A env λe s'=>R (.error e) s') s₁) (notedBy (bI prog w) A env λe s'=>R (.error e) s') s)
  (n:Nat)(h:I n s) :
  Hs (bI prog w) A (.compLoop (.ListComp g [⟨target,iter,j,0⟩] scope pos) 0 q acc env) R s:=by
 refine codeAny_loop rfl I (λn s z=>?_) n h;show bf _ A ((compTurn (.ListComp g [⟨target,iter,j,0⟩] scope pos) 0 q acc env).onRaise (λx=>do noteFrame x env;theTreesLotGoes x)) _ _ s;refine wpAny_noted ?_;rw[compTurn_list];refine aa (JA (aa (kC (turn n s z) (λr s₁ h₁=>?_) λ_ _ h'=>h')));cases r with
 |none=>exact aD h₁
 |some v=>
  refine aa (kC h₁ (λ_ s₁' h₁'=>?_) λ_ _ h'=>h');refine aa (kC h₁' (λ_ s₂ h₂=>aa (kC h₂ (λok s₃ h₃=>?_) λ_ _ h'=>h')) λ_ _ h'=>h');cases ok with
  |false=>exact aD ⟨rfl,h₃⟩
  |true=>exact aa (aa (kC h₃ (λx s₄ h₄=>aa (kC h₄ (λ_ s₅ h₅=>aD (aD ⟨rfl,h₅⟩)) λ_ _ h'=>h')) λ_ _ h'=>h'))
section
variable {X:Cx}
def ZH(B:TI)(g:TG)(tt:TT)(te:TE)(vs:List Nat):TE:=λσ H Q=>B σ H λJ H1=>∀D,H1 D=ZZ->∃W:Nat->Nat->Hp->Prop,(∃m,W 0 m (gw H1 D (.lst [])))/\∀i m H,W i m H ->
 (J.stop i H/\Q (.ref D) H)\/(J.go i H/\∃Nx:Hp->Prop,(∀H',Nx H'->∃n,n<m/\W (i+1) n H')/\∀x H',J.yld i H x H'->g x (uj σ vs) H' λσ2 H2=>uj σ2 vs=uj σ vs/\tt σ2 H2 λb q=>if b=ZY then te σ2 q λy z=>∃j,z D=Z_ (.lst j)/\j.length<bc/\Nx (gw z D (.lst (j++[y]))) else Nx q)
def Qu{pins:List (ak×Obj)}{s:aA}{σ:St}{H:Hp}{Q:VK}{M tg iter:ck}{O:List ck}{scope:gn}{own:List (Str×Nat)}{pos pos':Pos}{wi:TI}{g:TG}{tt:TT}{te:TE}{use:Option (aq->Sem Unit)}{Qf:aq->aA->Prop}
  (hc:X.calm=ZY)(hN:X.N.Nodup)(I:cq X pins σ H s)(hi:PI X tg iter wi)(ok:xD X.N X.env.scope scope own)
  (hg:∀(s:aA) (H:Hp) (C:ak) (cl:List (Str×ak)) (B:List ak),PG (X.blk s H scope (cH scope cl C X.env) B) tg g)(ht:∀(s:aA) (H:Hp) (C:ak) (cl:List (Str×ak)) (B:List ak),Z1 (X.blk s H scope (cH scope cl C X.env) B) O tt)
  (he:∀(s:aA) (H:Hp) (C:ak) (cl:List (Str×ak)) (B:List ak),PE (X.blk s H scope (cH scope cl C X.env) B) M te)(hs:∀x,fc iter X.env x=pure x)
  (h:ZH wi g tt te (own.map (·.2)) σ H Q)
  (hRR:∀D C s' m H',cq X pins σ H' s'->Q (.ref D) H'->s'.heap.Ns C m->Cq X pins H' C->compPost (bI X.prog X.w) X.A X.xe use Qf (.ref D) C (.ok .next) s') :
  bf (bI X.prog X.w) X.A (comprehension (.ListComp M [⟨tg,iter,O,0⟩] scope pos) scope X.env pos' (newList []) ZX (dh iter X.env) use) Qf X.xe s:=by
 have U:∀y∈scope.names,y.2=.free->∃c,X.env.cells.lookup y.1=Z_ c:=λy hy e=>by
  rcases ok.free y hy e with k|k
  .exact I.ok.has _ (.inl k)
  .exact I.ok.has _ (.inr k)
 refine wpAny_comprehension_free (use:=use) rfl hs (O_ U) ok.kind (λy hy e=>by rw[ok.uniq y hy,e])
  (jk (hi pins s σ H _ I h) λxv s1 hx=>jk hx λitv s2 h2=>?_)
 obtain⟨it,B,tn,J,H2,e,I2,T,st2,f2,q⟩:=h2;subst e;refine ff (Ni ?_) (by show 0<=bc;decide);generalize hD:s2.heap.objs.size=D;have hDn:H2 D=ZZ:=I2.hok.fresh (AU hD);obtain⟨W,⟨m0,w0⟩,turn⟩:=q D hDn;generalize hs3:({s2 with heap:=s2.heap.push {cls:=.type "list",data:=.seq ([]:List aq).toArray}}:aA)=s3;have I3:cq X pins σ (gw H2 D (.lst [])) s3:=by rw[<-hs3];refine I2.laid (t':=s2.toks) (λb o e=>aE _ e) (AU hD) ⟨gj _,[],0,.nil,?_⟩;rw[<-hD];exact b8 _ rfl
 have h3:s3.heap=s2.heap.push {cls:=.type "list",data:=.seq ([]:List aq).toArray}:=by rw[<-hs3]
 have sz:∀b∈B,b<s2.heap.objs.size:=λb F=>by obtain⟨o,e,_⟩:=T.obj _ _ st2 b F;exact b7 e
 have Y:∀b∈B,Cq X pins (gw H2 D (.lst [])) b/\b<s3.heap.objs.size:=λb F=>by have hlt:=sz b F;refine⟨⟨?_,(f2 b F).2⟩,by rw[h3,cU];exact xZ hlt⟩;rw[dy (by rw[<-hD];exact b_ hlt)];exact (f2 b F).1
 have st3:tn 0 s3.heap:=T.keep _ _ _ st2 λb _ o e=>by rw[h3];exact aE _ e
 have I4:=Nj I3 ok hN Y;have pg:=hg s3 (gw H2 D (.lst [])) s3.heap.objs.size (fK (s3.heap.objs.size+1) scope.names (gK X.env.cells scope.names [])) B;have pt:=ht s3 (gw H2 D (.lst [])) s3.heap.objs.size (fK (s3.heap.objs.size+1) scope.names (gK X.env.cells scope.names [])) B;have pe:=he s3 (gw H2 D (.lst [])) s3.heap.objs.size (fK (s3.heap.objs.size+1) scope.names (gK X.env.cells scope.names [])) B;show Hs _ _ (.compStart (.ListComp M [⟨tg,iter,O,0⟩] scope pos) 0 (.ref it) (.ref D) (cH scope (fK (s3.heap.objs.size+1) scope.names (gK X.env.cells scope.names [])) s3.heap.objs.size X.env)) (compPost (bI X.prog X.w) X.A X.xe use Qf (.ref D) s3.heap.objs.size) {s3 with heap:=xX (s3.heap.push {cls:=.type "dict",data:=.dict #[]}) scope.names};have nfp:∀b∈B,(gw H2 D (.lst [])) b=ZZ:=λb F=>(Y b F).1.1;generalize hce:cH scope (fK (s3.heap.objs.size+1) scope.names (gK X.env.cells scope.names [])) s3.heap.objs.size X.env=G at I4 pg pt pe ⊢;have cL:G.locals=s3.heap.objs.size:=by subst hce;rfl
 generalize hH3:gw H2 D (.lst [])=R at I3 I4 pg pt pe w0 nfp Y;generalize hs4:({s3 with heap:=xX (s3.heap.push {cls:=.type "dict",data:=.dict #[]}) scope.names}:aA)=s4 at I4 ⊢;have st4:tn 0 s4.heap:=T.keep _ _ _ st3 λb _ o e=>by rw[<-hs4];exact DQ _ _ _ _ (aE _ e)
 have L:∀{σ':St} {H':Hp} {s':aA},cq (X.blk s3 R scope G B) [] σ' H' s'->(∀b∈B,H' b=ZZ)->∀b∈B,Cq (X.blk s3 R scope G B) [] H' b:=λ{σ' H' s'} I' hn b F=>⟨hn b F,(I'.ok.exf b F).1,I'.ok.a4J b F,.inl F,λx c e=>(I'.ok.exf b F).2 x c e,λp hp=>absurd (show p∈([]:List (ak×Obj))++[] from hp) (by simp)⟩
 have loop:Hs (bI X.prog X.w) X.A (.compLoop (.ListComp M [⟨tg,iter,O,0⟩] scope pos) 0 (.ref it) (.ref D) G) (compPost (bI X.prog X.w) X.A X.xe use Qf (.ref D) s3.heap.objs.size) s4:=by
  refine LW (λn s'=>∃i H',cq (X.blk s3 R scope G B) [] (uj σ (own.map (·.2))) H' s'/\tn i s'.heap/\(∀b∈B,H' b=ZZ)/\W i n H') ?_ m0 ⟨0,R,I4,st4,nfp,w0⟩;rintro n s5 ⟨i,Z,I5,st5,n5,w5⟩;rcases turn i n Z w5 with⟨stop,qq⟩|⟨go,Nx,hNx,step⟩
  .have td:=T.done (X.blk s3 R scope G B) rfl rfl rfl hc i [] s5 _ Z (λ_ _=>False) I5 (L I5 n5) st5 stop;refine RE td λr s6 ⟨hr,I6⟩=>?_;subst hr;have I7:cq X pins σ Z s6:=I3.a5o (ch:=B) I6.os I6.base I6.hok I6.bare λb F=>⟨(Y b F).1.2.2.2.1,(Y b F).1.2.1,(Y b F).1.2.2.2.2.1,(Y b F).1.2.2.2.2.2⟩
   have nC:Z s3.heap.objs.size=ZZ:=by have z:Z G.locals=ZZ:=I6.free;rw[cL]at z;exact z
   obtain⟨m,hn,_⟩:=I6.loc;have hn:s6.heap.Ns G.locals m:=hn;rw[cL]at hn;exact hRR D s3.heap.objs.size s6 m Z I7 qq hn (I3.a4M (aN _) nC)
  .have ti:=T.item (X.blk s3 R scope G B) rfl rfl rfl hc i [] s5 _ Z (λ_ _=>False) I5 (L I5 n5) st5 go;refine RE ti λr s6 V=>Z12 V λu hr h6=>?_;subst hr;refine RE h6 λ_ s7 V=>Z23 V λx H7 I7 r7 V=>Z03 V λy7 st7 n7=>?_;have I7':=I7.pinned (L I7 n7) (T.obj _ _ st7);refine RE (pg _ s7 _ H7 x u _ I7' r7 (step x H7 y7)) λ_ s8 V=>Z23 V λσ8 H8 I8 hw8 q8=>?_;refine RE (pt _ s8 σ8 H8 _ I8 q8) λb s9 V=>Z12 V λH9 I9 q9=>?_;have fin:∀{s':aA} {H':Hp},cq (X.blk s3 R scope G B) ([]++Hy B s7.heap) σ8 H' s'->Nx H'->∃m,m<n/\∃i H',cq (X.blk s3 R scope G B) [] (uj σ (own.map (·.2))) H' s'/\tn i s'.heap/\(∀b∈B,H' b=ZZ)/\W i m H':=λ{s' H'} I' nx=>by
    obtain⟨m',hm,w'⟩:=hNx H' nx;have S:∀b∈B,∀o,s7.heap.get? b=Z_ o->s'.heap.get? b=Z_ o/\H' b=ZZ:=λb F o e=>
     let z:=I'.pin (b,o) (cG _ (cG _ (By F e)))
     ⟨z.1,z.2.1⟩
    have hl:(uj σ (own.map (·.2))).length=σ8.length:=by rw[<-hw8,l7]
    refine⟨m',hm,i+1,H',(I'.a3e (pins:=[])).weak hl (λj v e=>?_),T.keep _ _ _ st7 λb F o e=>(S b F o e).1,λb F=>?_,w'⟩
    .rw[<-hw8]at e;exact (D_ e).1
    .obtain⟨o,e,_⟩:=T.obj _ _ st7 b F;exact (S b F o e).2
   cases b with
   |false=>simp only[bR,if_false]at q9 ⊢;exact fin I9 q9
   |true=>simp only[if_true]at q9 ⊢;refine RE (pe _ s9 σ8 H9 _ I9 q9) λz s10 V=>Z23 V λyv H10 I10 r10 V=>Z13 V λacc hD10 hz10 nx=>?_;exact X_ (X:=X.blk s3 R scope G B) I10 hD10 hz10 r10 λs11 I11=>fin I11 nx
 exact codeAny_compStart_list loop (T.self X.A 0 _ _ _ st4 loop)
def WT{j tg iter n scope own pos B g tt te}(F:X.calm=ZY)(G:X.N.Nodup)(hi:PI X tg iter B)(ok:xD X.N X.env.scope scope own)
  (J:∀(s:aA) (H:Hp) (C:ak) (cl:List (Str×ak)) (z:List ak),PG (X.blk s H scope (cH scope cl C X.env) z) tg g)(L:∀(s:aA) (H:Hp) (C:ak) (cl:List (Str×ak)) (z:List ak),Z1 (X.blk s H scope (cH scope cl C X.env) z) n tt)
  (he:∀(s:aA) (H:Hp) (C:ak) (cl:List (Str×ak)) (z:List ak),PE (X.blk s H scope (cH scope cl C X.env) z) j te)(hs:3<|∀x,fc iter X.env x=pure x) :
  PE X (.ListComp j [⟨tg,iter,n,0⟩] scope pos) (ZH B g tt te (own.map (·.2))):=by
 intro pins s σ H Q I h;rw[eval_ListComp];refine Qu F G I hi ok J L he hs h λD C s' m H' M q O f=>⟨m,O,λh'' R=>?_⟩
 obtain⟨S,U,f2,W,Y,Z⟩:=f;exact⟨.ref D,H',M.turned (t':=s'.toks) (λb o hb e=>(R.2 b hb).trans e) S U W Y Z,rfl,q⟩
def Nk{i:Nat}{y J n tg iter j scope own}{pos B:Pos}{M g tt te}(Z:X.calm=ZY)(U:X.N.Nodup)(hy:X.N[i]?=Z_ y)(F:X.env.scope.names.lookup y=Z_ .local)
  (O:me (.ListComp n [⟨tg,iter,j,0⟩] scope pos) (Z_ (.Name y J)) B.line X.env=pure ZY)(hi:PI X tg iter M)(ok:xD X.N X.env.scope scope own)
  (hg:∀(s:aA) (H:Hp) (C:ak) (cl:List (Str×ak)) (G:List ak),PG (X.blk s H scope (cH scope cl C X.env) G) tg g)(ht:∀(s:aA) (H:Hp) (C:ak) (cl:List (Str×ak)) (G:List ak),Z1 (X.blk s H scope (cH scope cl C X.env) G) j tt)
  (he:∀(s:aA) (H:Hp) (C:ak) (cl:List (Str×ak)) (G:List ak),PE (X.blk s H scope (cH scope cl C X.env) G) n te)(hs:3<|∀x,fc iter X.env x=pure x) :
  PS X (.Assign [.Name y J] (.ListComp n [⟨tg,iter,j,0⟩] scope pos) B) (Xz (ZH M g tt te (own.map (·.2))) (xB i)):=by
 intro pins s σ H D I h;rw[exec_Assign_Name_used _ _ _ _ O];refine aa (JA (aa ?_));show bf _ X.A (do let _ <-comprehension (.ListComp n [⟨tg,iter,j,0⟩] scope pos) scope X.env (firstIterPos [⟨tg,iter,j,0⟩] pos) (newList []) ZX (dh iter X.env) (Z_ (Ka (.Name y J) X.env))) _ _ s;have h:ZH M g tt te (own.map (·.2)) σ H (λx H1=>xB i x σ H1 D.nx):=h;refine aa (jk (Qu (Qf:=λ_ s'=>SP X pins D .next s') Z U I hi ok hg ht he hs h λL C s' m H' I' q hn f=>?_) λ_ s' hq=>aD (aD hq));show bf _ _ (Ka (.Name y J) X.env (.ref L)) _ _ _;refine wpAny_assign_Name (Kf (v:=V.ref L) I' U hy (.inl F) rfl (λs2 I2 ⟨a,sb,ha⟩=>?_) (.inr F));obtain⟨f0,W,f2,f3,Y,f5⟩:=f;have R:C≠a:=by
  rcases ha with z|z
  .rwa[z]
  .exact λe=>Y y a z e.symm
 refine⟨m,hn.sameBut sb R,λh3 S=>?_⟩;exact⟨_,H',I2.turned (t':=s2.toks) (λb o hb e=>(S.2 b hb).trans e) f0 W f3 Y f5,q⟩
end
def VU(N:List Str)(g scope:gn)(own:List (Str×Nat)):Bool:=
 (match scope.kind with|.function=>ZY|_=>ZX)&&(scope.names.all λy=>decide (scope.names.lookup y.1=Z_ y.2))&&(own.all λp=>decide (N[p.2]?=Z_ p.1)) &&
  (scope.names.all λy=>match y.2 with
   |.free=>(match g.names.lookup y.1 with|some .cell=>ZY|some .free=>ZY|_=>ZX)
   |.local=>decide (y.1∈own.map (·.1))||decide (y.1∉N)
   |.cell=>decide (y.1∈own.map (·.1))||decide (y.1∉N)
   |_=>ZY)
def Tt{N j scope own}(h:VU N j scope own=ZY):xD N j scope own:=by
 unfold VU at h;simp only[a_,cb,decide_eq_true_eq]at h;obtain⟨⟨⟨h1,h2⟩,z⟩,n⟩:=h;refine⟨?_,h2,z,λy g e=>?_,λy g e=>?_⟩
 .split at h1
  .assumption
  .cases h1
 .have q:=n y g;simp only[e]at q;split at q<;>first|exact .inl (by assumption)|exact .inr (by assumption)|cases q
 .have q:=n y g;rcases e with e|e<;>(simp only[e,l6,decide_eq_true_eq]at q;exact q)
end L2
namespace L2
open PySem PySem.Spec PyProof.Rows

def Nl{σ}{i:Nat}:∀{vs:List Nat},i∉vs->(uj σ vs)[i]?=σ[i]?
 |[],_=>rfl
 |v::vs,h=>by have h1:v≠i:=λe=>h (by rw[e];exact bG);have h2:i∉vs:=λm=>h (ba _ m);unfold uj;rw[dk h1];exact Nl h2
end L2
namespace L2
open PySem PySem.Spec PyProof.Rows

section
variable {κ:Type} [DecidableEq κ]
def vd(g:List (κ×V))(k:κ):Option V:=(g.find? λj=>decide (j.1=k)).map (·.2)
def uk(g:List (κ×V))(k:κ)(v:V):List (κ×V):=if (g.any λj=>decide (j.1=k))=ZY then g.map (λj=>if j.1=k then (j.1,v) else j) else g++[(k,v)]
def Cu{p:κ×V}{r k}(e:p.1=k):vd (p::r) k=Z_ p.2:=by simp[vd,eL,e]
def Cv{p:κ×V}{r k}(e:¬p.1=k):vd (p::r) k=vd r k:=by simp[vd,eL,e]
def Nm(k:κ):∀g:List (κ×V),(g.any λj=>decide (j.1=k))=(vd g k).isSome
 |[]=>rfl
 |p::r=>by
  rw[fm];by_cases e:p.1=k
  .simp only[Cu e,decide_eq_true e,Bool.true_or,Option.isSome_some]
  .rw[Cv e,decide_eq_false e,Fg];exact Nm k r
def tN(g:List (κ×V))(k:κ)(v:V):(uk g k v).length<=g.length+1:=by
 unfold uk;split
 .rw[ah];lia
 .rw[aK,aZ,List.length_nil];lia
def Bw.a2p{o:Option V}{u:Option aq}(r:Bw o u):o.isSome=u.isSome:=by
 cases o with
 |none=>cases u with
  |none=>rfl
  |some _=>exact (show False from r).elim
 |some _=>cases u with
  |none=>exact (show False from r).elim
  |some _=>rfl
def Bw.getD{o:Option V}{u:Option aq}{d d'}(r:Bw o u)(g:ee d d'):ee (o.getD d) (u.getD d'):=by
 cases o with
 |none=>cases u with
  |none=>exact g
  |some _=>exact (show False from r).elim
 |some _=>cases u with
  |none=>exact (show False from r).elim
  |some _=>exact r
def KV.val{g vs}(r:KV g vs)(k:κ):Bw (vd g k) (Ax vs k):=by
 unfold KV at r;induction r with
 |nil=>exact rk
 |@cons p q ps j h t B=>
  obtain⟨h1,h2⟩:=h;by_cases e:p.1=k
  .have n:q.1=k:=h1.symm.trans e;have b:Ax (q::j) k=Z_ q.2:=by simp[Ax,eL,n]
   rwa[Cu e,b]
  .have n:¬q.1=k:=λz=>e (h1.trans z);have b:Ax (q::j) k=Ax j k:=by simp[Ax,eL,n]
   rwa[Cv e,b]
def KV.any{g:List (κ×V)}{vs:List (κ×aq)}(r:KV g vs)(k:κ):(g.any λj=>decide (j.1=k))=vs.any λj=>decide (j.1=k):=by
 unfold KV at r;induction r with
 |nil=>rfl
 |cons h t n=>rw[fm,fm,n,h.1]
def KV.a5g{j:List (κ×V)}{vs:List (κ×aq)}(r:KV j vs)(k:κ){y u}(n:ee y u):
  KV (j.map λg=>if g.1=k then (g.1,y) else g) (vs.map λg=>if g.1=k then (g.1,u) else g):=by
 unfold KV at r ⊢;induction r with
 |nil=>exact .nil
 |@cons p q ps qs h t B=>
  rw[aQ,aQ];refine .cons ?_ B;obtain⟨h1,h2⟩:=h;by_cases e:p.1=k
  .rw[i0p e,i0p (h1.symm.trans e)];exact⟨h1,n⟩
  .rw[i0n e,i0n (λz=>e (h1.trans z))];exact⟨h1,h2⟩
def KV.put{g vs}(r:KV g vs)(k:κ){y u}(j:ee y u):KV (uk g k y) (stored vs k u):=by
 unfold uk stored;rw[r.any k];by_cases e:(vs.any λn=>decide (n.1=k))=ZY
 .rw[i0p e,i0p e];exact r.a5g k j
 .rw[i0n e,i0n e];exact Paired.snoc r ⟨rfl,j⟩
def KV.length{g:List (κ×V)}{vs:List (κ×aq)}(r:KV g vs):g.length=vs.length:=jC r
end
def Hz{P w k u}(r:ee (kV k) u):(lF P w).is k u=ZY:=by
 cases k with
 |inl i=>obtain⟨t,e⟩:=(show ∃t,u=ue i t from r);subst e;exact N7 P w i t
 |inr x=>obtain⟨t,e⟩:=(show ∃t,u=Value.str x t from r);subst e;exact yx P w x t
abbrev KT(H:Hp):List (K2×V)->List (K2×ak×aq)->Prop:=cE λp q=>p.1=q.1/\oT H p.1 q.2.1/\ee p.2 q.2.2
def KT.val{H g xs}(r:KT H g xs)(k:K2):Bw (vd g k) ((GO xs k).map (·.2)):=by
 induction r with
 |nil=>exact rk
 |@cons p q ps j h t B=>
  obtain⟨h1,_,h2⟩:=h;by_cases e:p.1=k
  .have n:q.1=k:=h1.symm.trans e;have b:GO (q::j) k=Z_ q.2:=by simp[GO,eL,n]
   rwa[Cu e,b]
  .have n:¬q.1=k:=λz=>e (h1.trans z);have b:GO (q::j) k=GO j k:=by simp[GO,eL,n]
   rwa[Cv e,b]
def KT.a5g{H}{g:List (K2×V)}{xs:List (K2×ak×aq)}(r:KT H g xs)(k:K2){y u}(n:ee y u):
  KT H (g.map λj=>if j.1=k then (j.1,y) else j) (xs.map (putAt k u)):=by
 induction r with
 |nil=>exact .nil
 |@cons p q ps qs h t B=>
  rw[aQ,aQ];refine .cons ?_ B;obtain⟨h1,h2,D⟩:=h;unfold putAt;by_cases e:p.1=k
  .rw[i0p e,i0p (h1.symm.trans e)];exact⟨h1,h2,n⟩
  .rw[i0n e,i0n (λz=>e (h1.trans z))];exact⟨h1,h2,D⟩
def KT.put{H g xs}(r:KT H g xs)(k:K2){b y u}(n:oT H k b)(j:ee y u):
  KT H (uk g k y) (Ay xs k b u):=by
 have e:(g.any λz=>decide (z.1=k))=(GO xs k).isSome:=by rw[Nm,(r.val k).a2p,jv]
 unfold uk Ay;rw[e];by_cases q:(GO xs k).isSome=ZY
 .rw[i0p q,i0p q];exact r.a5g k j
 .rw[i0n q,i0n q];exact Paired.snoc r ⟨rfl,n,j⟩
def KT.keeps{H H' g xs}(r:KT H g xs)(j:∀b ys,H b=Z_ (.tup ys)->H' b=Z_ (.tup ys)):KT H' g xs:=Paired.a5i r λ_ _ z=>⟨z.1,oT.keeps j z.2.1,z.2.2⟩
section
variable {P:bF} {w:cD} {H:Hp} {h:cQ} {a:ak}
def WU{u}(ok:yd P w H h)(e:Rd H a u):iz P w H h a u:=e.ok ok
def Fn{g:List (LO×V)}(ok:yd P w H h)(e:Rd H a (.dK g)):g.length<=bc/\(a==eX)=ZX/\∃vs,KV g vs/\h.DictOf (lF P w) a vs:=show iz P w H h a (.dK g) from WU ok e
def ZI{g:List (LO×V)}(ok:yd P w H h)(e:H a=Z_ (.dK g)):g.length<=bc/\(a==eX)=ZX/\∃vs,KV g vs/\h.DictOf (lF P w) a vs:=Fn ok (.inl e)
def Tu{l:List Int}:∀{us:List aq},dC (l.map V.int) us->ItemsAre (fQ P w) l us:=by
 induction l with
 |nil=>intro us r;cases r;exact .nil
 |cons x l g=>
  intro us r;rw[aQ]at r;cases r with
  |cons a b=>
   obtain⟨t,rfl⟩:=(show ∃t,_=ue x t from a)
   exact .cons (by simp[fQ,Value.isInt]) (g b)
def VW{l:List Int}(ok:yd P w H h)(e:H a=Z_ (.tup (l.map V.int))):tH (fQ P w) h l a:=by
 obtain⟨_,its,r,o,h1,h2,n,g⟩:=(show iz P w H h a (.tup (l.map V.int)) from ok a _ e)
 exact⟨o,its.toArray,n,h1,h2,g,by simpa using Tu r⟩
def Kp(ok:yd P w H h):∀{k:K2} {xs:List V} {us:List aq},cE (a0p H) k xs->dC xs us->cE (xA P w h) k us:=by
 intro k xs us h;induction h generalizing us with
 |nil=>intro g;cases g;exact .nil
 |@cons x _ _ _ q t j=>intro g;cases g with
  |cons r n=>
   refine .cons ?_ (j n);cases x with
   |inl i=>cases (show _=V.int i from q);exact r
   |inr l=>obtain⟨b,z,B⟩:=q;subst z;cases r;exact⟨b,rfl,VW ok B⟩
def um{k}(ok:yd P w H h)(e:oT H k a):(fi P w).is h k a:=by
 obtain⟨xs,e,p⟩:=e;obtain⟨_,its,r,o,h1,h2,n,g⟩:=(show iz P w H h a (.tup xs) from ok a _ e)
 exact⟨o,its.toArray,n,h1,h2,g,by simpa using Kp ok p r⟩
def Fo{g:List (K2×V)}(ok:yd P w H h)(e:Rd H a (.dT g)):g.length<=bc/\(a==eX)=ZX /\
  ∃xs,KT H g xs/\h.DictOfH (fi P w) a xs:=by
 obtain⟨z,y,xs,r,o,es,ep,h1,h2,B,D,F⟩:=(show iz P w H h a (.dT g) from WU ok e)
 refine⟨z,y,xs,r,o,es,ep,h1,h2,B,D,λx hx=>?_,F⟩;have j:∀{l:List (K2×V)} {m:List (K2×ak×aq)},KT H l m->∀x∈m,(fi P w).is h x.1 x.2.1:=by
  intro l m q;induction q with
  |nil=>intro x hx;exact nomatch hx
  |@cons p q ps qs n t G=>
   intro x hx;rcases aL.mp hx with e|hx
   .subst e;exact um ok (by rw[<-n.1];exact n.2.1)
   .exact G x hx
 exact j r x hx
def Tv{g:List (K2×V)}(ok:yd P w H h)(e:H a=Z_ (.dT g)):g.length<=bc/\(a==eX)=ZX /\
  ∃xs,KT H g xs/\h.DictOfH (fi P w) a xs:=Fo ok (.inl e)
end
def E1(H:Hp)(a:ak)(y:V)(r:Option V):Prop:=(∃g k,Rd H a (.dK g)/\y=kV k/\r=vd g k)\/∃g k b,Rd H a (.dT g)/\y=.ref b/\oT H k b/\r=vd g k
def ZJ(H:Hp)(a:ak)(y v:V)(H':Hp):Prop:=
 (∃g k,H a=Z_ (.dK g)/\y=kV k/\g.length<bc/\H'=gw H a (.dK (uk g k v))) \/
 ∃g k b,H a=Z_ (.dT g)/\y=.ref b/\oT H k b/\g.length<bc/\H'=gw H a (.dT (uk g k v))
section
variable {X:Cx} {pins:List (ak×Obj)} {σ:St} {H:Hp} {s:aA} {a:ak} {y v:V} {u r:aq} {o:Option V} {A:cB} {E:aq->aA->Prop}
def cq.big(I:cq X pins σ H s):eX<s.heap.objs.size:=by have h:eu<s.heap.objs.size:=(I.mod.glob.keeps I.bk).lt;exact AW (by decide) h
def RF{Q}(L:A.units+64<gv)(I:cq X pins σ H s)(g:E1 H a y (Z_ v))(J:ee y u)(h:∀q s',cq X pins σ H s'->ee v q->Q q s'):
  bf (bI X.prog X.w) A (getItem (.ref a) u) Q E s:=by
 rcases g with⟨B,k,e,D,l⟩|⟨B,k,b,e,D,M,l⟩
 .subst D;obtain⟨z,N,O,j,F⟩:=Fn I.hok e;obtain⟨q,hw,n⟩:=Bw.some_of (v:=v) (o:=Ax O k) (by rw[l];exact j.val k);exact wpAny_getItem_of (Hz J) F.mapOf hw (h q _ (I.tok _) n)
 .subst D;cases (show u=bp b from J);obtain⟨z,N,xs,j,F⟩:=Fo I.hok e;obtain⟨q,hw,n⟩:=Bw.some_of (v:=v) (o:=(GO xs k).map (·.2)) (by rw[l];exact j.val k);obtain⟨p,R,G⟩:=gu.mp hw;refine wpAny_getItem_heap (iy L) (um I.hok M) F R ?_;rw[G];exact h q _ (I.tok _) n
def a1f{Q}(J:A.units+64<gv)(I:cq X pins σ H s)(g:E1 H a y o)(G:ee y u)(h:∀s',cq X pins σ H s'->Q (.bool o.isSome) s'):
  bf (bI X.prog X.w) A (fo .In u (.ref a)) Q E s:=by
 rcases g with⟨n,k,e,B,l⟩|⟨n,k,b,e,B,L,l⟩
 .subst B;obtain⟨z,D,vs,j,F⟩:=Fn I.hok e;refine wpAny_in_of (Hz G) D F.mapOf ?_;rw[<-(j.val k).a2p,<-l];exact h _ (I.tok _)
 .subst B;cases (show u=bp b from G);obtain⟨z,D,xs,j,F⟩:=Fo I.hok e;refine wpAny_in_heap (iy J) (um I.hok L) D F ?_;have q:=(j.val k).a2p;rw[jv]at q;rw[<-q,<-l];exact h _ (I.tok _)
def VX{Q}(J:A.units+64<gv)(I:cq X pins σ H s)(g:E1 H a y o)(G:ee y u)(h:∀s',cq X pins σ H s'->Q (.bool (!o.isSome)) s'):
  bf (bI X.prog X.w) A (fo .NotIn u (.ref a)) Q E s:=by
 rcases g with⟨n,k,e,B,l⟩|⟨n,k,b,e,B,L,l⟩
 .subst B;obtain⟨z,D,vs,j,F⟩:=Fn I.hok e;refine wpAny_notIn_of (Hz G) D F.mapOf ?_;rw[<-(j.val k).a2p,<-l];exact h _ (I.tok _)
 .subst B;cases (show u=bp b from G);obtain⟨z,D,xs,j,F⟩:=Fo I.hok e;refine wpAny_notIn_heap (iy J) (um I.hok L) D F ?_;have q:=(j.val k).a2p;rw[jv]at q;rw[<-q,<-l];exact h _ (I.tok _)
def GU{h':cQ}{t':Nat}{ob}(I:cq X pins σ H s)(j:WO (H a))(hs:jB a s.heap h')(he:∃q,h'.get? a=Z_ q)(g:iz X.prog X.w (gw H a ob) h' a ob):
  cq X pins σ (gw H a ob) {s with heap:=h',toks:=t'}:=
 I.write (x:=a) (e:=a) j (.inl rfl) (λb q n z=>(hs.2 b n).trans z) he g
def Y0{P w H'}{h':cQ}{g:List (LO×V)}{vs}(z:g.length<=bc)(n:(a==eX)=ZX)(j:KV g vs)(q:h'.DictOf (lF P w) a vs):
  iz P w H' h' a (.dK g):=⟨z,n,vs,j,q⟩
def RG{H' Q}(Y:A.units+64<gv)(I:cq X pins σ H s)(g:ZJ H a y v H')(R:ee y u)(S:ee v r)(h:∀s',cq X pins σ H' s'->Q () s'):
  bf (bI X.prog X.w) A (setItem (.ref a) u r) Q E s:=by
 rcases g with⟨j,k,e,F,l,G⟩|⟨j,k,b,e,F,U,l,G⟩
 .subst F G;obtain⟨z,J,Z,n,L⟩:=ZI I.hok e;have M:Z.length<=bc:=by rwa[<-n.length]
  have N:(uk j k v).length<=bc:=by have:=tN j k v;lia
  refine wpAny_setItem_pairs (hsz:=M) (Hz R) L λh' B O=>h _ ?_;have he:∃q,h'.get? a=Z_ q:=let ⟨q,_,_,D,_⟩:=B;⟨q,D⟩
  exact GU I (by rw[e];exact rk) O he (Y0 N J (n.put k S) B)
 .subst F G;cases (show u=bp b from R);obtain⟨z,J,xs,n,L⟩:=Tv I.hok e;have M:xs.length<=bc:=by rwa[<-jC n]
  have N:(uk j k v).length<=bc:=by have:=tN j k v;lia
  refine wpAny_setItem_heap (hsz:=M) (iy Y) (um I.hok U) L λh' B O=>h _ ?_;obtain⟨q,es,ep,D,h2,h3,h4,_,h5⟩:=B;refine GU I (by rw[e];exact rk) O ⟨q,D⟩ ⟨N,J,_,(n.put k U S).keeps λc ys W=>?_,q,es,ep,D,h2,h3,h4,h5⟩;rwa[dy (T5 W e (λz=>nomatch z))]
end
def Nn{X pins σ H}{s:aA}{a y o}(I:cq X pins σ H s)(g:E1 H a y o):s.TypeIs (.ref a) "dict":=by
 rcases g with⟨j,k,e,_,_⟩|⟨j,k,b,e,_,_,_⟩
 .obtain⟨_,_,vs,_,n⟩:=Fn I.hok e;exact n.typeIs
 .obtain⟨_,_,xs,_,n⟩:=Fo I.hok e;exact n.typeIs
def ZK(td ty tv:TE):TS:=λD σ H=>tv σ H λv H1=>td σ H1 λx H2=>ty σ H2 λy j=>∃a g,x=.ref a/\ZJ j a y v g/\D.nx σ g
section
variable {X:Cx} {o i e value:ck} {pos pos' tpos:Pos} {td ty tv:TE}
def VY(j:X.A.units+64<gv)(n:PE X o td)(hi:PE X i ty)(q:PE X value tv)(hs:me value (Z_ (.Subscript o i pos')) pos.line X.env=pure ZX):
  PS X (.Assign [.Subscript o i pos'] value pos) (ZK td ty tv):=by
 intro pins s σ H D I h;refine wpAny_Assign_Subscript (jk (q pins s σ H _ I h) λr z Z=>Z23 Z λv H1 B F G=>jk (n pins z σ H1 _ B G) λu J Z=>Z23 Z λx H2 L M N=>jk (hi pins J σ H2 _ L N) λiv s3 Z=>Z23 Z λy H3 O R Z=>Z23 Z λa S ex g U=>?_) hs;subst ex;obtain rfl:u=bp a:=M;exact RG j O g R F λs4 W=>⟨σ,S,W,U⟩
end
def Np{P w H}(h:cQ)(g:eX<h.objs.size):iz P w H (h.push {cls:=.type "dict",data:=.dict #[]}) h.objs.size (.dT []):=⟨gj _,beq_eq_false_iff_ne.mpr (aG (b_ g)),[],.nil,_,#[],0,b8 _ rfl,⟨rfl,rfl,rfl⟩,rfl,rfl,v7⟩
def Y1:TE:=λ_ H Q=>∀p,H p=ZZ->Q (.ref p) (gw H p (.dT []))
section
variable {X:Cx} {pos:Pos}
def Tw:PE X (.Dict [] [] pos) Y1:=λpins s σ H Q I h=>wpAny_Dict_empty ⟨.ref s.heap.objs.size,_,I.laid (a:=s.heap.objs.size) (o:=.dT []) (t':=s.toks) (λ_ _ q=>aE _ q) (aN _) (Np s.heap I.big),rfl,h _ (I.hok.fresh (aN _))⟩
end
structure M1(X:Cx)(o:ck)(m:Str)(apos:Pos)(e:ck)(cpos:Pos):Prop where
 base:g6 o m X.env (dh o X.env)=dh o X.env
 few:((gU cpos (aU [e] X.env)).all (λx=>!x.1)&&(backToKw cpos (Au [] X.env)).all (λx=>x.1.isSome)
  && decide (([e]:List ck).length+([]:List Ht).length+(if ([]:List Ht).isEmpty then 0 else 1)<30))=ZY
 line:(apos.endLine==cpos.line)=ZY
 trees:gU cpos (aU [e] X.env)=[(ZX,dh e X.env)]
structure M2(X:Cx)(o:ck)(m:Str)(apos:Pos)(e f:ck)(cpos:Pos):Prop where
 base:g6 o m X.env (dh o X.env)=dh o X.env
 few:((gU cpos (aU [e,f] X.env)).all (λx=>!x.1)&&(backToKw cpos (Au [] X.env)).all (λx=>x.1.isSome)
  && decide (([e,f]:List ck).length+([]:List Ht).length+(if ([]:List Ht).isEmpty then 0 else 1)<30))=ZY
 line:(apos.endLine==cpos.line)=ZY
 trees:gU cpos (aU [e,f] X.env)=[(ZX,dh e X.env),(ZX,dh f X.env)]
def a1g(H:Hp)(a:ak):Prop:=(∃g,Rd H a (.dK g))\/∃g,Rd H a (.dT g)
def Tx{X pins σ H}{s:aA}{a}(I:cq X pins σ H s)(d:a1g H a):
  s.TypeIs (.ref a) "dict"/\(∀b,bp a=.ref b->∃ob,s.heap.get? b=Z_ ob/\ob.dict=ZZ)/\(a==eX)=ZX:=by
 rcases d with⟨j,e⟩|⟨j,e⟩
 .obtain⟨_,n,vs,_,g⟩:=Fn I.hok e;refine⟨g.typeIs,λb q=>?_,n⟩;cases q;obtain⟨ob,_,_,h1,h2,_⟩:=g;exact⟨ob,h1,h2.2.1⟩
 .obtain⟨_,n,xs,_,g⟩:=Fo I.hok e;refine⟨g.typeIs,λb q=>?_,n⟩;cases q;obtain⟨ob,_,_,h1,h2,_⟩:=g;exact⟨ob,h1,h2.2.1⟩
section
variable {X:Cx} {pins:List (ak×Obj)} {σ:St} {H:Hp} {s:aA} {a:ak} {y d:V} {u r:aq} {o:Option V} {A:cB} {E:aq->aA->Prop}
def Y2{Q}(L:A.units+64<gv)(I:cq X pins σ H s)(g:E1 H a y o)(G:ee y u)(h:∀J s',cq X pins σ H s'->ee (o.getD .non) J->Q J s'):
  bf (bI X.prog X.w) A (Kb (.builtin "dict.get") [.ref a,u]) Q E s:=by
 rcases g with⟨q,k,e,B,l⟩|⟨q,k,b,e,B,M,l⟩
 .subst B;obtain⟨z,D,vs,j,n⟩:=Fn I.hok e;refine DK iS n.typeIs oX (PySem.F.args_dict_get_2 _ _) (meets_dict_get (lF X.prog X.w) a (Hz G) D) ⟨_,n.mapOf,h _ _ (I.tok _) ?_⟩;rw[l];exact (j.val k).getD rfl
 .subst B;cases (show u=bp b from G);obtain⟨z,D,xs,j,n⟩:=Fo I.hok e;refine DK iS n.typeIs oX (PySem.F.args_dict_get_2 _ _) (meetsH_dict_get (fi X.prog X.w) a b D) ⟨iy L,k,xs,um I.hok M,n,h _ _ (I.tok _) ?_⟩;rw[l];exact (j.val k).getD rfl
def Y3{Q}(M:A.units+64<gv)(I:cq X pins σ H s)(g:E1 H a y o)(G:ee y u)(J:ee d r)(h:∀L s',cq X pins σ H s'->ee (o.getD d) L->Q L s'):
  bf (bI X.prog X.w) A (Kb (.builtin "dict.get") [.ref a,u,r]) Q E s:=by
 rcases g with⟨q,k,e,B,l⟩|⟨q,k,b,e,B,N,l⟩
 .subst B;obtain⟨z,D,vs,j,n⟩:=Fn I.hok e;refine DK iS n.typeIs oX (PySem.F.args_dict_get_3 _ _ _) (meets_dict_get_default (lF X.prog X.w) a (Hz G) D r) ⟨_,n.mapOf,h _ _ (I.tok _) ?_⟩;rw[l];exact (j.val k).getD J
 .subst B;cases (show u=bp b from G);obtain⟨z,D,xs,j,n⟩:=Fo I.hok e;refine DK iS n.typeIs oX (PySem.F.args_dict_get_3 _ _ _) (meetsH_dict_get_default (fi X.prog X.w) a b D r) ⟨iy M,k,xs,um I.hok N,n,h _ _ (I.tok _) ?_⟩;rw[l];exact (j.val k).getD J
end
def Y4(td ty:TE):TE:=λσ H Q=>td σ H λx H1=>∃a,x=.ref a/\a1g H1 a/\ty σ H1 λy H2=>∃o,E1 H2 a y o/\Q (o.getD .non) H2
def Y5(td ty tx:TE):TE:=λσ H Q=>td σ H λx H1=>∃a,x=.ref a/\a1g H1 a/\ty σ H1 λy H2=>tx σ H2 λz g=>∃o,E1 g a y o/\Q (o.getD z) g
section
variable {X:Cx} {o e f:ck} {apos cpos:Pos} {td ty tx:TE}
def Tz(q:X.A.units+64<gv)(z:PE X o td)(he:PE X e ty)(m:M1 X o "get" apos e cpos):PE X (.Call (.Attribute o "get" apos) [e] [] cpos) (Y4 td ty):=by intro pins s σ H Q I h;refine wpAny_Call_method m.base m.few m.line xt iS PySem.F.type_dict_get (jk (z pins s σ H _ I h) λu B Z=>Z23 Z λx H1 n D Z=>Z13 Z λa ex d G=>?_);subst ex;obtain rfl:u=bp a:=D;obtain⟨J,L,_⟩:=Tx n d;refine⟨J,L,?_⟩;rw[m.trees];refine A0 rfl (Cf (uW (jk (he pins B σ H1 _ n G) λiv s2 Z=>Z23 Z λy H2 M N Z=>Z12 Z λov g O=>GM ?_)));exact Y2 q M g N λw' s3 R j=>⟨_,H2,R,j,O⟩
def TB(q:X.A.units+64<gv)(B:PE X o td)(he:PE X e ty)(hf:PE X f tx)(m:M2 X o "get" apos e f cpos):PE X (.Call (.Attribute o "get" apos) [e,f] [] cpos) (Y5 td ty tx):=by
 intro pins s σ H Q I h;refine wpAny_Call_method m.base m.few m.line xt iS PySem.F.type_dict_get (jk (B pins s σ H _ I h) λu D V=>Z23 V λx H1 n G V=>Z13 V λa ex d J=>?_);subst ex;obtain rfl:u=bp a:=G;obtain⟨L,M,_⟩:=Tx n d;refine⟨L,M,?_⟩;rw[m.trees];refine A0 rfl (Cf (uW (jk (he pins D σ H1 _ n J) λiv N V=>Z23 V λy H2 O R S=>uW (jk (hf pins N σ H2 _ O S) λfv s3 V=>Z23 V λz U W Y V=>Z12 V λov g Z=>GM ?_))))
 exact Y3 q W g R Y λw' s4 I4 j=>⟨_,U,I4,j,Z⟩
end
end L2
namespace L2
open PySem PySem.Spec PyProof.Rows

def HA:typeLookup (.type "list") "keys"=pure ZZ:=am_miss_of_fast (by first|decide +kernel|rfl)
def Nq:entryFor table "dict.update.loop"=Z_ Builtin.«dict.update.loop»:=entryFor_of_tree (by kernel_rfl)
def yB:plainId "dict.update.loop"=ZY:=by decide +kernel
section
variable {prog:bF} {w:cD} {A:cB} {E:aq->aA->Prop}
def RH{s:aA}{a}{o:Obj}{xs}{k:Nat}{Q}(G:s.heap.get? a=Z_ o)(I:o.cls=.type "list")(j:o.data=.seq xs k)(J:o.dict=ZZ)(M:A.handled=ZZ)
  (h:∀h' tk,(∀b ob,s.heap.get? b=Z_ ob->h'.get? b=Z_ ob)->Q ZZ {s with heap:=h',toks:=tk}):bf (bI prog w) A (getAttr? (.ref a) "keys") Q E s:=by
 obtain⟨c,dct,dat,N⟩:=o;simp only at I j J;subst I j J;obtain⟨O,g,d,tk,os⟩:=s;have L:∀B,(⟨O,g,d,B,os⟩:aA).TypeIs (.ref a) "list":=λ_=>⟨_,G,rfl⟩
 have n:=HA;have q:(["__module__", "__name__", "__qualname__", "__doc__", "__annotations__"]:List Str).contains "keys"=ZX:=by decide +kernel
 have D:("keys":Str).length+100<=bc:=by first|size_fits|decide +kernel
 have f1:=sub_AttributeError;have f3:=PySem.F.slot_list_getattribute.lookup;have f4:=PySem.F.slot_list_getattribute.bind (.ref a);have f5:=am_list_getattr_none;unfold getAttr? getAttrBy? getAttrBy
 repeat (any_goals (first|assumption|exact L _|((with_reducible show bf _ _ (Kb (Value.builtin "list.__getattribute__") _ _) _ _ _);refine call_meets qB (L _) am_entry_list_getattribute (PySem.F.args_list_getattribute_2 _ _) (meets_getattribute_miss_list a xs k N "keys" _ n q D) ⟨G,M,λh' B e z=>?_⟩)|wp_step))
 obtain⟨t',u',he⟩:=z.there;show bf _ _ (getattributeRaised _ _ _ _ _ _ _) _ _ _;unfold getattributeRaised
 repeat (any_goals (first|assumption|wp_step))
 all_goals first|exact h _ _ z.keeps|(dsimp only;repeat (any_goals (first|assumption|exact h _ _ z.keeps|wp_step)))
end
section
variable {X:Cx}
def GW:∀{ps:List ak} {us:List aq},dC (ps.map V.ref) us->us=ps.map bp
 |[],us,r=>by rw[Av]at r;cases r;rfl
 |p::ps,us,r=>by
  rw[aQ]at r;cases r with
  |cons h t=>cases h;rw[aQ,<-GW t]
end
end L2
namespace L2
open PySem PySem.Spec PyProof.Rows

section
variable {X:Cx} {pins:List (ak×Obj)} {σ:St} {H:Hp} {s:aA} {h':cQ}
def cq.a4x{t':Nat}{ch:List ak}(I:cq X pins σ H s)(k:∀b o,b∉ch->s.heap.get? b=Z_ o->h'.get? b=Z_ o)(hf:∀b∈ch,Cq X pins H b):cq X pins σ H {s with heap:=h',toks:=t'}:=by
 have j:∀b u,H b=Z_ u->b∉ch:=λb u e z=>by have q:=(hf b z).1;rw[q]at e;cases e
 refine I.step (g':=s.gens) (d':=s.drawn) (ch:=ch) (λb B=>⟨(hf b B).2.2.2.1,(hf b B).2.1,(hf b B).2.2.2.2.1,(hf b B).2.2.2.2.2⟩) (λb o _ _ g e _=>k b o g e) (λb o _ _ g e _=>⟨o.slots,k b o g e⟩)
  (λ_ _ _ _ n=>n) (λb o g e=>⟨o,k b o g e⟩) (λ_ _ e=>e) (λ_ _ _ e=>e) (λb ps e=>⟨#[],by rw[e];simp⟩) (λm hm=>?_) (λb u e=>?_) I.bare
 .obtain⟨o,es,ep,D,r⟩:=hm;exact⟨o,es,ep,k _ o (λz=>(hf _ z).2.1 rfl) D,r⟩
 .refine (I.hok b u e).a4h (λc v g q=>k c v ?_ q) (λ_ q=>q) λ_ _ q=>q;rcases g with z|z
  .rw[z];exact j b u e
  .exact j c _ z
def cq.a2K{t':Nat}{ch:List ak}{T:ak}{ob:HO}(I:cq X pins σ H s)(k:∀b o,b∉ch->s.heap.get? b=Z_ o->h'.get? b=Z_ o)(hf:∀b∈ch,Cq X pins H b)(G:s.heap.objs.size<=T)
  (F:iz X.prog X.w (gw H T ob) h' T ob):cq X pins σ (gw H T ob) {s with heap:=h',toks:=t'}:=by
 have B:H T=ZZ:=I.hok.fresh G;have D:∀b u,H b=Z_ u->b∉ch:=λb u e z=>by have q:=(hf b z).1;rw[q]at e;cases e
 refine I.step (g':=s.gens) (d':=s.drawn) (ch:=ch) (λb g=>⟨(hf b g).2.2.2.1,(hf b g).2.1,(hf b g).2.2.2.2.1,(hf b g).2.2.2.2.2⟩) (λb o _ _ j e _=>k b o j e) (λb o _ _ j e _=>⟨o.slots,k b o j e⟩)
  (λb o _ e n=>?_) (λb o j e=>⟨o,k b o j e⟩) (λb xs e=>?_) (λb o u e=>?_) (λb ps e=>⟨#[],?_⟩) (λm hm=>?_) (λb u e=>?_) I.bare
 .rwa[dy (b_ (bV (b7 e) G))]
 .rwa[dy (gc e B)]
 .rwa[dy (gc e B)]
 .rw[dy (gc e B),e];simp
 .obtain⟨o,es,ep,J,r⟩:=hm;exact⟨o,es,ep,k _ o (λz=>(hf _ z).2.1 rfl) J,r⟩
 .by_cases g:b=T
  .subst g;rw[eT]at e;cases e;exact F
  .rw[dy g]at e;refine (I.hok b u e).a4h (λc v j q=>k c v ?_ q) (λc q=>by rwa[dy (gc q B)]) λc xs q=>by rwa[dy (gc q B)]
   rcases j with z|z
   .rw[z];exact D b u e
   .exact D c _ z
def cq.lock{d u}(I:cq X pins σ H s)(h:H d=Z_ u)(j:WO (Z_ u)):∃g,cq X pins σ (gw H d (.frz g u)) s:=by
 have x:=I.hok d u h;have ex:∃g,s.heap.get? d=Z_ g:=by
  cases u with
  |lst xs=>obtain⟨_,_,_,_,e⟩:=x;exact⟨_,e⟩
  |dK B=>obtain⟨_,_,_,_,o,_,_,e,_⟩:=x;exact⟨o,e⟩
  |dT B=>obtain⟨_,_,_,_,o,_,_,e,_⟩:=x;exact⟨o,e⟩
  |set S n=>obtain⟨o,_,_,_,e,_⟩:=x;exact⟨o,e⟩
  |ins C dx fs=>obtain⟨_,_,_,e,_⟩:=x;exact⟨_,e⟩
  |ext φ=>obtain⟨_,⟨_,e⟩,_⟩:=x;exact⟨_,e⟩
  |_=>exact fY j
 obtain⟨g,e⟩:=ex;have D:iz X.prog X.w (gw H d (.frz g u)) s.heap d (.frz g u):=by
  refine⟨e,x.a4h (λb v _ q=>q) (λb q=>?_) λb xs q=>?_⟩
  .rwa[dy (λz=>by rw[z,h]at q;cases q;exact j)]
  .rwa[dy (λz=>by rw[z,h]at q;cases q;exact j)]
 exact⟨g,I.write (x:=d) (e:=d) (t':=s.toks) (h':=s.heap) (by rwa[h]) (.inl rfl) (λb v _ q=>q) ⟨g,e⟩ D⟩
end
section
variable {X:Cx}
def HB{tg pins σ H}{s:aA}{R J g}{tk:Nat}(I:cq X pins σ H s)(o:Obj)
  (T:Gb X.prog X.w X.K tg J [s.heap.objs.size] s.heap.objs.size g)(st:g 0 (s.heap.push o))(q:R J H):a0s X pins σ tg R (.ref s.heap.objs.size) {s with heap:=s.heap.push o,toks:=tk}:=by
 refine⟨s.heap.objs.size,[s.heap.objs.size],g,J,H,rfl,I.kept λb ob e=>aE _ e,T,st,λb j=>?_,q⟩;have e:b=s.heap.objs.size:=by simpa using j
 subst e;exact I.a4M (aN _) (I.hok.fresh (aN _))
end
def a1h(lo c:Int)(n:Nat):It:=⟨λi _=>i<n,λi H x H'=>H'=H/\x=.int (lo+(i:Nat)*c),λi _=>n<=i⟩
def Nr{P w K tg}(g:ak)(lo c:Int)(n:Nat):Gb P w K tg (a1h lo c n) [g] g (λi h=>IsRangeIter h g (lo+(i:Nat)*c) ((n:Int)-(i:Nat)) c) where
 mem:=by simp
 obj:=λi h st b j=>by
  have e:b=g:=by simpa using j
  subst e;exact⟨_,st,λv z=>nomatch z⟩
 keep:=λi h h' st k=>k g (by simp) _ st
 item:=by intro X D hw F G i pins s σ H E I B st J;subst D hw F;obtain⟨L,M,U,N,O,R⟩:=B g (by simp);have W:=Walks.range (prog:=X.prog) (w:=X.w) (I.ok.hd G) g lo c n;refine W.item i s _ _ J st λv h' S Y q Z=>?_;obtain⟨t,rfl⟩:=Y;have I1:cq X pins σ H {s with heap:=h',toks:=S}:=I.turned (λb o j e=>Z b o (by simpa using j) e) L M N O R;exact⟨_,rfl,Kh (s:={s with heap:=h',toks:=S}) (n:="range_iterator") q rfl rfl (by decide) ⟨.int (lo+(i:Nat)*c),H,I1,⟨t,rfl⟩,⟨rfl,rfl⟩,q,λb j=>(B b j).1⟩⟩
 done:=by intro X D hw F G i pins s σ H E I B st J;subst D hw F;obtain⟨L,M,U,N,O,R⟩:=B g (by simp);exact wpAny_pyNext_range_end (I.ok.hd G) st (by have:n<=i:=J;lia) λh' eb=>⟨rfl,I.turned (t':=s.toks) (λb o j e=>eb b o j e) L M N O R⟩
 self:=λA i s Q E st h=>wpAny_pyIter_rangeiter st h
def a1N(i j c:Int)(n:Nat):Prop:=c≠0/\c.natAbs<1073741824/\Builtin.Range.small i j c=ZY/\jo i j c=n
def ZL(ta:TA):TI:=λσ H R=>ta σ H λg H1=>∃(i j c:Int) (n:Nat),g=[.int i,.int j,.int c]/\a1N i j c n/\R (a1h i c n) H1
section
variable {X:Cx} {tg:ck}
def RI{a b c ta p pos}(G:Gl X "range")(hm:X.mg "range"=ZZ)(J:PA X [a,b,c] ta)
  (hs:1<|aU [a,b,c] X.env=(ZX,dh a X.env)::aU [b,c] X.env)(B:1<|(gU pos (aU [b,c] X.env)).any (·.1)=ZX) :
  PI X tg (.Call (.Name "range" p) [a,b,c] [] pos) (ZL ta):=by
 intro pins s σ H R I h;refine Call_ (Bx I G hm boot_range (fR (jk (J pos pins s σ H _ I h) λus z V=>Z23 V λvs H1 L M N=>?_) hs B));obtain⟨i,j,k,n,e,⟨O,S,U,W⟩,q⟩:=N;subst e;cases M with
 |cons r g=>
  cases g with
  |cons Y g=>
   cases g with
   |cons D g=>
    cases g;obtain⟨t,rfl⟩:=r;obtain⟨t',rfl⟩:=Y;obtain⟨F,rfl⟩:=D;refine call_range_3 O ?_ (.inl (PyProof.noPylong_small S));refine wpAny_pyIter_range (IsRange.new ..) U ?_;have Z:cq X pins σ H1 {z with heap:=z.heap.push {cls:=.type "range",data:=.fields #[.int i t,.int j t',.int k F]}}:=L.kept (t':=z.toks) λb o e=>aE _ e;refine HB (tk:=z.toks) Z _ (Nr _ i k n) ?_ q;have e1:i+((0:Nat):Int)*k=i:=by simp
    have e2:(n:Int)-((0:Nat):Int)=jo i j k:=by rw[W];simp
    show IsRangeIter _ _ (i+((0:Nat):Int)*k) ((n:Int)-((0:Nat):Int)) k;rw[e1,e2];exact b8 _ rfl
end
section
variable {prog:bF} {w:cD} {A:cB} {E:aq->aA->Prop} {s:aA}
def Kq{d}{o:Obj}{es}{ep:Nat}{Q}(q:(d==eX)=ZX)(j:s.heap.get? d=Z_ o)(z:o.ExactDict)(g:o.data=.dict es ep)
  (B:Q (.ref s.heap.objs.size) {s with heap:=s.heap.push {cls:=.type "dict_keyiterator",data:=.fields #[.ref d,.int 0 0,.int es.size 0,.int ep 0]}}) :
  bf (bI prog w) A (pyIter (.ref d)) Q E s:=by
 have n:s.TypeIs (.ref d) "dict":=⟨o,j,z.1⟩
 refine wpAny_pyIter_slot n F.slot_dict_iter (dO F.slot_dict_iter n F.entry_dict_iter ?_ (F.args_dict_iter_1 _));unfold Builtin.«dict.__iter__»;refine aa ?_;unfold Builtin.Dict.dictSlotNone;refine aa (tu n ?_);show bf _ _ (pure (bp d)) _ _ s;refine aD ?_;show bf _ _ (oO d >>= _) _ _ s;unfold oO;rw[i0n (by rw[q];exact aB)];refine aa (aD ?_);refine aa (kq j g ?_);refine aa (qf j g ?_);refine aa (ff (aD ⟨_,rfl, "dict_keyiterator",_,⟨_,b8 _ rfl,rfl⟩,F.slot_dict_keyiterator_next.lookup,?_⟩));simpa[mx] using B
def B0{j d}{i n ep:Nat}{M:Obj}{es:Array fq}{N:fq}{Q}(g:s.heap.IsKeyIter j d i n ep)(z:s.heap.get? d=Z_ M)(B:M.data=.dict es ep)
  (hsz:es.size=n)(O:es[i]?=Z_ N)(R:∀h',h'.IsKeyIter j d (i+1) n ep->jB j s.heap h'->Q (Z_ N.key) {s with heap:=h'}):bf (bI prog w) A (qy (.ref j)) Q E s:=by
 obtain⟨o,J,S,I⟩:=id g;unfold qy;refine aa (uf (ft (name:=n6 "__next__") g.typeIs g7
  (dO g7 g.typeIs F.entry_dict_keyiterator_next ?_ (F.args_dict_keyiterator_next_1 _))))
 refine aa (aD ?_);refine aa ?_;refine aa ?_;first|refine aa (lB g.typeIs (aD ?_))|refine aa (pM g.typeIs (aD ?_))
 refine aa (GP J I ?_);have D:gG "dict_keyiterator"=ZX:=by decide
 simp only[D,bR,if_false];show bf _ _ (if (bp d==eG)=ZY then _ else _) _ _ s;rw[i0n (show ¬((bp d==eG)=ZY) from aB)];refine aa (aD ?_);refine aa (kq z B ?_);rw[i0n (by rw[hsz];simp)];refine aa (aD ?_);refine aa (qf z B ?_);rw[i0n (by simp)];refine aD ?_;obtain⟨G,L⟩:=Array.getElem?_eq_some_iff.mp O;simp only[show ¬((i:Int)<0) from by lia,if_false,bA,Array.getElem?_eq_getElem G];refine aa ?_;first|refine aa (lB g.typeIs (aD ?_))|refine aa (pM g.typeIs (aD ?_))
 refine aa (wpAny_isOneOf_keyiter g.typeIs ?_);show bf _ _ (setField (.ref j) 1 (mx ((i:Int)+1)) >>= _) _ _ s;refine aa (rM J I (by simp) ?_);have q:(s.heap.update j (yl (·.setIfInBounds 1 (mx ((i:Int)+1))))).IsKeyIter j d (i+1) n ep:=⟨_,lA _ J (Cg (l5 I _)),(Jw ..).trans S,by rw[l5 I];simp[mx]⟩
 refine aa (iw ?_);refine aa (wpAny_isOneOf_keyiter (s:={s with heap:=s.heap.update j (yl (·.setIfInBounds 1 (mx ((i:Int)+1))))}) q.typeIs ?_);show bf _ _ (pure es[i].key) _ _ _;rw[L];exact aD (aD ⟨_,rfl,aD (R _ q (fg ..))⟩)
def Cw{D d}{i n ep:Nat}{I:Obj}{es:Array fq}{Q}(M:A.handled=ZZ)(g:s.heap.IsKeyIter D d i n ep)(j:s.heap.get? d=Z_ I)(q:I.data=.dict es ep)
  (hsz:es.size=n)(G:n<=i)(N:∀h',Heap.ExtBut D s.heap h'->Q ZZ {s with heap:=h'}):bf (bI prog w) A (qy (.ref D)) Q E s:=by
 obtain⟨o,J,hc,L⟩:=id g;unfold qy;refine aa (uf (ft (name:=n6 "__next__") g.typeIs g7
  (dO g7 g.typeIs F.entry_dict_keyiterator_next ?_ (F.args_dict_keyiterator_next_1 _))))
 refine aa (aD ?_);refine aa ?_;refine aa ?_;first|refine aa (lB g.typeIs (aD ?_))|refine aa (pM g.typeIs (aD ?_))
 refine aa (GP J L ?_);have z:gG "dict_keyiterator"=ZX:=by decide
 simp only[z,bR,if_false];show bf _ _ (if (bp d==eG)=ZY then _ else _) _ _ s;rw[i0n (show ¬((bp d==eG)=ZY) from aB)];refine aa (aD ?_);refine aa (kq j q ?_);rw[i0n (by rw[hsz];simp)];refine aa (aD ?_);refine aa (qf j q ?_);rw[i0n (by simp)];refine aD ?_;have B:es.size<=i:=by rwa[hsz]
 simp only[show ¬((i:Int)<0) from by lia,if_false,bA,A1 B];refine aa ?_;first|refine aa (lB g.typeIs (aD ?_))|refine aa (pM g.typeIs (aD ?_))
 show bf _ _ (setField (.ref D) 0 .none >>= _) _ _ s;refine aa (rM J L (by simp) ?_);show bf _ _ (newExc (.type "StopIteration") [] >>= _) _ _ _;refine aa ?_;simp only[newExc,newTuple];refine aa (ff ?_ (by size_fits));refine aa (m:=rN _ _) (wpAny_of_eq (a:=eG) (by first|rfl|(simp only[rN];rfl)) ?_);refine ff ?_ (by size_fits);simp only[raiseNew];refine aa (wpAny_handled ?_);rw[show A.in1.handled=ZZ from M];refine aa (aD (wpAny_throw ?_));refine aa (tI (T:="StopIteration") (b:=ZY) ⟨_,b8 _ rfl,rfl⟩ isSubtype_stop ?_);exact aD (N _ (((fg ..).extBut.push _).push _))
end
def HC{α β:Type}{G:α->β->Prop}{l₁:List α}{l₂:List β}(h:cE G l₁ l₂):∀{i:Nat} {a:α},l₁[i]?=Z_ a->∃b,l₂[i]?=Z_ b/\G a b:=by
 induction h with
 |nil=>intro i a e;simp at e
 |@cons a b l₁ l₂ r t g=>
  intro i a' e;cases i with
  |zero=>simp only[yp,iY]at e;subst e;exact⟨b,rfl,r⟩
  |succ j=>simp only[yq]at e ⊢;exact g e
section
variable {X:Cx} {pins:List (ak×Obj)} {σ:St} {H:Hp} {s:aA} {d:ak} {o:Obj}
def cq.a4m{g:List (K2×V)}(I:cq X pins σ H s)(h:H d=Z_ (.frz o (.dT g))):
  (d==eX)=ZX/\s.heap.get? d=Z_ o/\o.ExactDict/\∃(es:Array fq) (ep:Nat),o.data=.dict es ep/\es.size=g.length /\
   ∀(i:Nat) (k:K2) (v:V),g[i]?=Z_ (k,v)->∃(n:fq) (q:ak),es[i]?=Z_ n/\n.key=.ref q/\oT H k q:=by
 obtain⟨B,z,J,xs,D,o',es,ep,F,L,j,G,_⟩:=I.hok d _ h;rw[B]at F;cases F;refine⟨J,B,L,es,ep,j,?_,λi k v e=>?_⟩
 .have l1:es.size=xs.length:=size_of_entries G;have l2:g.length=xs.length:=jC D;lia
 .obtain⟨b,M,e1,N,_⟩:=HC D e;have q:=entry_at G i;rw[M]at q;exact⟨_,b.2.1,q,rfl,N⟩
end
def Y6(d:ak)(o:Obj)(g:List (K2×V)):It:=⟨λi H=>H d=Z_ (.frz o (.dT g))/\i<g.length,λi H x H'=>H'=H/\∃(k:K2) (v:V) (q:ak),g[i]?=Z_ (k,v)/\x=.ref q/\oT H k q,λi H=>H d=Z_ (.frz o (.dT g))/\g.length<=i⟩
def GX{o:Obj}{es g}{ep j:Nat}(h:o.data=.dict es ep)(h':o.data=.dict g j):g=es/\j=ep:=by rw[h]at h';cases h';exact⟨rfl,rfl⟩
section
variable {P:bF} {w:cD} {K:ab} {tg:ck} {d:ak} {o:Obj} {es:Array fq} {ep:Nat}
def P0{j:List (K2×V)}(n:ak)(J:o.data=.dict es ep):Gb P w K tg (Y6 d o j) [n] n (λi h=>h.IsKeyIter n d i j.length ep) where
 mem:=by simp
 obj:=λi h st b B=>by
  have e:b=n:=by simpa using B
  subst e;obtain⟨R,e,c,U⟩:=st;exact⟨R,e,λv z=>by rw[U]at z;cases z⟩
 keep:=λi h h' st k=>st.at λR e=>k n (by simp) R e
 item:=by
  intro X W hw Y hc i pins s σ H E I S st Z;subst W hw Y;obtain⟨hd,hi⟩:=Z;obtain⟨f0,f1,f2,f3,f4,f5⟩:=S n (by simp);obtain⟨hs,D,hx,es',ep',g,G,L⟩:=I.a4m hd;obtain⟨rfl,rfl⟩:=GX J g;obtain⟨⟨k,v⟩,M⟩:∃p,j[i]?=Z_ p:=⟨j[i],aj hi⟩
  obtain⟨en,q,hen,N,hq⟩:=L i k v M;refine B0 st D g G hen λh' O sb=>?_;have I1:cq X pins σ H {s with heap:=h'}:=I.turned (t':=s.toks) (λb ob B e=>(sb.2 b B).trans e) f0 f1 f3 f4 f5;obtain⟨R,e,c,U⟩:=id O;exact⟨en.key,rfl,Kh (s:={s with heap:=h'}) e c U (by decide) ⟨.ref q,H,I1,N,⟨rfl,k,v,q,M,rfl,hq⟩,O,λb B=>(S b B).1⟩⟩
 done:=by intro X W hw Y hc i pins s σ H E I S st Z;subst W hw Y;obtain⟨hd,hi⟩:=Z;obtain⟨f0,f1,f2,f3,f4,f5⟩:=S n (by simp);obtain⟨hs,D,hx,es',ep',g,G,L⟩:=I.a4m hd;obtain⟨rfl,rfl⟩:=GX J g;exact Cw (I.ok.hd hc) st D g G hi λh' eb=>⟨rfl,I.turned (t':=s.toks) (λb ob B e=>eb b ob B e) f0 f1 f3 f4 f5⟩
 self:=λA i s Q E st h=>by refine wpAny_pyIter_slot st.typeIs F.slot_dict_keyiterator_iter (dO F.slot_dict_keyiterator_iter st.typeIs F.entry_dict_keyiterator_iter ?_ (F.args_dict_keyiterator_iter_1 _));show bf _ _ (ret (.ref n)) _ _ s;exact aD ⟨_,rfl, "dict_keyiterator",_,st.typeIs,F.slot_dict_keyiterator_next.lookup,h⟩
end
def a1i(K:ab)(a:ak):It:=⟨λi H=>∃(xs:List V) (x:V),ny K H a xs/\xs[i]?=Z_ x,λi H v H'=>∃T x,v=.ref T/\H T=ZZ/\H'=gw H T (.tup [.int (i:Nat),x])/\∀xs,ny K H a xs->xs[i]?=Z_ x,λi H=>∃xs:List V,ny K H a xs/\xs.length<=i⟩
def RJ{P w K elts}{kk:Nat}{tpos}(a e n:ak):
  Gb P w K (.Tuple elts kk tpos) (a1i K a) [e,n] e (λi h=>(∃g,IsEnum h e n ((i:Nat):Int) g)/\h.IsListIter n a i/\e≠n) where
 mem:=by simp
 obj:=λi h st b B=>by
  obtain⟨⟨g,D⟩,⟨o,O,R,hd⟩,_⟩:=st;have S:b=e\/b=n:=by simpa using B
  rcases S with z|z
  .rw[z];exact⟨_,D,λv q=>nomatch q⟩
  .rw[z];exact⟨o,O,λv q=>by rw[hd]at q;cases q⟩
 keep:=λi h h' st k=>let ⟨⟨g,D⟩,hi,j⟩:=st;⟨⟨g,k e (by simp) _ D⟩,hi.at λo q=>k n (by simp) o q,j⟩
 item:=by
  intro X U hw W R i pins s σ H E I M st Y;subst U hw W;obtain⟨⟨g,D⟩,F,j⟩:=st;obtain⟨xs,x,N,Z⟩:=Y;obtain⟨its,rv,p,hz⟩:=I.list N;obtain⟨u,hu,ru⟩:=rv.get Z;have J:e<s.heap.objs.size:=b7 D;have hil:n<s.heap.objs.size:=by obtain⟨_,q,_⟩:=F;exact b7 q
  refine wpAny_pyNext_enum_item D F p.isList (x:=u) (by simpa using hu) j λh' O L hT hsz hk=>?_;refine⟨_,rfl,wpAny_letOwnedTupleGo_enum (s:={s with heap:=h',toks:=s.toks+1}) O λG he' sb=>?_⟩;have hT2:G.get? s.heap.objs.size=Z_ {cls:=.type "tuple",data:=.seq #[.int i s.toks,u]}:=(sb.2 _ (m_ J)).trans hT;have new:iz X.prog X.w (gw H s.heap.objs.size (.tup [.int (i:Nat),x])) G s.heap.objs.size (.tup [.int (i:Nat),x]):=⟨by show 2<=bc;decide,[.int i s.toks,u],.cons ⟨_,rfl⟩ (.cons ru .nil),⟨_,hT2,rfl,_,rfl⟩⟩
  have I1:cq X pins σ (gw H s.heap.objs.size (.tup [.int (i:Nat),x])) {s with heap:=G,toks:=s.toks+1}:=I.a2K (ch:=[e,n]) (λb ob B q=>(sb.2 b (λz=>B (by simp[z]))).trans (hk b ob (λz=>B (by simp[z])) (λz=>B (by simp[z])) q)) M (aN _) new
  refine⟨.ref s.heap.objs.size,_,I1,rfl,⟨_,x,rfl,I.hok.fresh (aN _),rfl,λys hy=>by rwa[I.a2H hy N]⟩,⟨⟨u,?_⟩,L.at λo q=>(sb.2 n (aG j)).trans q,j⟩,λb B=>?_⟩
  .have e1:((i+1:Nat):Int)=(i:Int)+1:=by lia
   rwa[e1]
  .have hb':b<s.heap.objs.size:=by
    have S:b=e\/b=n:=by simpa using B
    rcases S with z|z
    .rwa[z]
    .rwa[z]
   rw[dy (b_ hb')];exact (M b B).1
 done:=by intro X U hw W R i pins s σ H E I M st Y;subst U hw W;obtain⟨⟨g,D⟩,F,j⟩:=st;obtain⟨xs,N,Z⟩:=Y;obtain⟨its,rv,p,hz⟩:=I.list N;obtain⟨f0,f1,f2,f3,f4,f5⟩:=M n (by simp);have hl:=rv.length;exact wpAny_pyNext_enum_end (I.ok.hd R) D F p.isList (by simp;lia) λh' eb=>⟨rfl,I.turned (t':=s.toks) (λb o B q=>eb b o B q) f0 f1 f3 f4 f5⟩
 self:=λA i s Q E st h=>let ⟨⟨_,D⟩,_⟩:=st;Az D h
def RL:oN "zip"=Z_ (.type "zip"):=by decide +kernel
def a1j(K:ab)(a b:ak):It:=
 ⟨λi H=>∃(xs ys:List V) (x y:V),ny K H a xs/\ny K H b ys/\xs[i]?=Z_ x/\ys[i]?=Z_ y,
  λi H v H'=>∃T x y,v=.ref T/\H T=ZZ/\H'=gw H T (.tup [x,y])/\(∀xs,ny K H a xs->xs[i]?=Z_ x)/\∀ys,ny K H b ys->ys[i]?=Z_ y,
  λi H=>∃xs ys:List V,ny K H a xs/\ny K H b ys/\(xs.length<=i\/ys.length<=i)⟩
def TC{P w K elts}{kk:Nat}{tpos a b z TI TO F G}(D:ZipApart z TI TO F G a b):
  Gb P w K (.Tuple elts kk tpos) (a1j K a b) [z,TI,TO,F,G] z (λi h=>ym h z TI TO .none/\jV h TI (.ref F) (.ref G)/\(∃x y,jV h TO x y)/\h.IsListIter F a i/\h.IsListIter G b i) where
 mem:=by simp
 obj:=λi h st c Z=>by
  obtain⟨M,g,⟨x,y,j⟩,⟨o1,e1,_,d1⟩,⟨o2,e2,_,d2⟩⟩:=st;have e':c=z\/c=TI\/c=TO\/c=F\/c=G:=by simpa using Z
  rcases e' with q|q|q|q|q
  .rw[q];exact⟨_,M,λv q=>nomatch q⟩
  .rw[q];exact⟨_,g,λv q=>nomatch q⟩
  .rw[q];exact⟨_,j,λv q=>nomatch q⟩
  .rw[q];exact⟨o1,e1,λv q=>by rw[d1]at q;cases q⟩
  .rw[q];exact⟨o2,e2,λv q=>by rw[d2]at q;cases q⟩
 keep:=λi h h' st k=>by obtain⟨M,g,⟨x,y,j⟩,h1,h2⟩:=st;exact⟨k z (by simp) _ M,k TI (by simp) _ g,⟨x,y,k TO (by simp) _ j⟩,h1.at λo q=>k F (by simp) o q,h2.at λo q=>k G (by simp) o q⟩
 item:=by
  intro X hP hw hK Z i pins s σ H E I hf st hg;subst hP hw hK;obtain⟨M,g,⟨x0,y0,j⟩,h1,h2⟩:=st;obtain⟨xs,ys,x,y,J,L,hx,hy⟩:=hg;obtain⟨its,rv,p,_⟩:=I.list J;obtain⟨N,O,p2,_⟩:=I.list L;obtain⟨u,hu,ru⟩:=rv.get hx;obtain⟨u2,hu2,ru2⟩:=O.get hy;have U:z<s.heap.objs.size:=b7 M;refine wpAny_pyNext_zip_item D M g j h1 h2 p.isList p2.isList (x:=u) (y:=u2) (by simpa using hu) (by simpa using hu2) λh' z' TO' h1' h2' hT hsz hk=>?_;refine⟨_,rfl,wpAny_letOwnedTupleGo_zip (s:={s with heap:=h'}) z' λR z'' S=>?_⟩;have hT2:R.get? s.heap.objs.size=Z_ {cls:=.type "tuple",data:=.seq #[u,u2]}:=(S.2 _ (m_ U)).trans hT;have new:iz X.prog X.w (gw H s.heap.objs.size (.tup [x,y])) R s.heap.objs.size (.tup [x,y]):=⟨by show 2<=bc;decide,[u,u2],.cons ru (.cons ru2 .nil),⟨_,hT2,rfl,_,rfl⟩⟩
  have I1:cq X pins σ (gw H s.heap.objs.size (.tup [x,y])) {s with heap:=R}:=I.a2K (t':=s.toks) (ch:=[z,TI,TO,F,G]) (λc o B q=>(S.2 c (λn=>B (by simp[n]))).trans (hk c o (λn=>B (by simp[n])) (λn=>B (by simp[n])) (λn=>B (by simp[n])) (λn=>B (by simp[n])) q)) hf (aN _) new
  refine⟨.ref s.heap.objs.size,_,I1,rfl,⟨_,x,y,rfl,I.hok.fresh (aN _),rfl,λl hl=>by rwa[I.a2H hl J],λl hl=>by rwa[I.a2H hl L]⟩,⟨z'',?_,⟨u,u2,?_⟩,?_,?_⟩,λc W=>?_⟩
  .exact (S.2 _ D.TIz).trans (hk _ _ D.TIz D.TITO D.TIi1 D.TIi2 g)
  .exact (S.2 _ D.TOz).trans TO'
  .exact h1'.at λo q=>(S.2 _ D.i1z).trans q
  .exact h2'.at λo q=>(S.2 _ D.i2z).trans q
  .have hlt:c<s.heap.objs.size:=by
    have e':c=z\/c=TI\/c=TO\/c=F\/c=G:=by simpa using W
    rcases e' with q|q|q|q|q
    .rwa[q]
    .rw[q];exact b7 g
    .rw[q];exact b7 j
    .rw[q];obtain⟨_,e1,_⟩:=h1;exact b7 e1
    .rw[q];obtain⟨_,e2,_⟩:=h2;exact b7 e2
   rw[dy (b_ hlt)];exact (hf c W).1
 done:=by
  intro X hP hw hK Z i pins s σ H E I hf st hg;subst hP hw hK;obtain⟨M,g,⟨x0,y0,j⟩,h1,h2⟩:=st;obtain⟨xs,ys,J,L,Y⟩:=hg;obtain⟨its,rv,p,_⟩:=I.list J;obtain⟨N,O,p2,_⟩:=I.list L;have l1:=rv.length;have l2:=O.length;have he:its.toArray[i]?=ZZ\/N.toArray[i]?=ZZ:=by
   rcases Y with q|q
   .exact .inl (by simp;lia)
   .exact .inr (by simp;lia)
  exact wpAny_pyNext_zip_end (I.ok.hd Z) D M g j h1 h2 p.isList p2.isList he λh' hk=>⟨rfl,I.a4x (t':=s.toks) (ch:=[z,TI,TO,F,G]) (λc o B q=>hk c o (λn=>B (by simp[n])) (λn=>B (by simp[n])) (λn=>B (by simp[n])) (λn=>B (by simp[n])) q) hf⟩
 self:=λA i s Q E st h=>Ci st.1 h
end L2
namespace L2
open PySem PySem.Spec PyProof.Rows

@[inline]def GY(s:cR)(j:Nat):cR:=match s with
 |.ClassDef _ _ _ body _ _ _ _ _ _ _=>body.getD j (.Pass ⟨0,0,0,0⟩)
 |_=>.Pass ⟨0,0,0,0⟩
def tO(s:cR):Arguments:=match s with
 |.FunctionDef _ a _ _ _ _ _ _ _ _=>a
 |_=>{posonlyargs:=[],args:=[],vararg:=ZZ,kwonlyargs:=[],kw_defaults:=[],kwarg:=ZZ,defaults:=[]}
def lG(s:cR):List cR:=match s with
 |.FunctionDef _ _ b _ _ _ _ _ _ _=>b
 |_=>[]
def aY(s:cR):gn:=match s with
 |.FunctionDef _ _ _ _ _ _ g _ _ _=>g
 |_=>{kind:=.function,names:=[],isGenerator:=ZX,isCoroutine:=ZX}
abbrev Kr:SV:=λ_ _ _ _ _ _=>False
abbrev E0:XK:=λ_ _ _=>False
def Qv{X}:DX Kr X E0:=λ_ _ _ _ _ _ _ h=>h.elim
structure TF(K:ab)(x qual:Str)(st:cR)(f:ak)(fd:jx):Prop where
 ex:∃(oc:aq) (od:Option ak) (kV doc pm:aq) (an:Option ak) (cdv ct:aq) (osl:Array (Option aq)),
  fd=jq x qual (tO st) (lG st) (aY st) .none kV doc pm an cdv ct/\K.lookup f=Z_ ⟨oc,od,.func fd,osl⟩/\tJ K cdv qual=ZY
 kp:eJ K (.ref f)=ZY
section
variable {P:bF} {w:cD} {K:ab} {mg:Str->Option aq} {base:cQ}
def TF.ok{x qual st f fd}{N ps:List Str}{k:Nat}{sp}(F:TF K x qual st f fd)(S:bt N ps (aY st))(n:∀vs H Q E,sp vs H Q E->vs.length=ps.length)
  (j:∀(g:aq) (A:cB) (outer:List Env) (s:aA) (H:Hp) (vs:List V) (Q:VK) (E:XK),jw k (A.deeper (yj qual (aY st) s.heap.objs.size f g))->sp vs H Q E ->
   ∃t,N6 (Nc Kr P w K mg base N qual (aY st) f g A outer s H E).nox (lG st) t/\t {nx:=λ_ H'=>Q .non H',rt:=Q} (A_ N vs) H):oU P w K mg base Kr (k+1) f fd ps sp:=by
 obtain⟨oc,od,kV,doc,pm,an,g,ct,osl,rfl,lk,z⟩:=F.ex;refine Zz lk z S n λA outer s H vs Q E D B=>?_;obtain⟨t,h,q⟩:=j g A outer s H vs Q E D B;exact⟨t,h.nox,q⟩
def TF.binds{x qual st f fd}{ps:List Str}(F:TF K x qual st f fd)
  (h:∀(kV g n:aq) (q:Option ak) (j z:aq) (us:List aq),us.length=ps.length->bindArgs (jq x qual (tO st) (lG st) (aY st) .none kV g n q j z) ⟨us,[]⟩=pure (ps.zip us)):oY K fd ps []:=by
 obtain⟨oc,od,kV,g,n,q,j,z,osl,rfl,lk,hcd⟩:=F.ex;exact .all (h kV g n q j z)
def TH{x qual st f D F q n kV j z g B}(l:K.lookup f=Z_ ⟨D,F,.func (jq x qual (tO st) (lG st) (aY st) .none kV j z q g B),n⟩)
  (c:tJ K g qual=ZY)(k:eJ K (.ref f)=ZY):TF K x qual st f (jq x qual (tO st) (lG st) (aY st) .none kV j z q g B):=⟨⟨D,F,kV,j,z,q,g,B,n,rfl,l,c⟩,k⟩
end
def fj{A:cB}{k:Nat}(g:jw k A):A.units+64<gv:=g.units
end L2
namespace L2T
open PySem
open Sem (wp)
open Builtin Builtin.Str
open AutoSeq1 (wpAny_loadPart')
section
variable {prog:bF} {w:cD} {A:cB} {E:aq->aA->Prop} {s:aA}
def kI{b l}{i:Nat}{items x Q}(a:s.heap.IsTupleIter b l i)
  (g:s.heap.IsTuple l items)(h:items[i]?=Z_ x)
  (j:∀h',h'.IsTupleIter b l (i+1)->jB b s.heap h'->Q x {s with heap:=h'}) :
  bf (bI prog w) A (dS (.ref b)) Q E s:=by
 obtain⟨o,d,k,c⟩:=id a;obtain⟨ol,e,_,nl,f⟩:=g;unfold dS;refine aa (ft (name:=n6 "__next__") a.typeIs n8
  (dO n8 a.typeIs F.entry_tuple_iterator_next ?_ (F.args_tuple_iterator_next_1 _)))
 show bf _ _ (field (.ref b) 0 >>= _) _ _ s;refine aa (iI d c (x:=.ref l) rfl ?_);show bf _ _ (if (bp l==eG)=ZY then _ else _) _ _ s;rw[i0n (show ¬((bp l==eG)=ZY) from aB)];show bf _ _ (field (.ref b) 1 >>= _) _ _ s;refine aa (iI d c (x:=.int i 0) rfl ?_);show bf _ _ (seqItems? (.ref l) >>= _) _ _ s;refine aa (fA e f ?_);simp only[bA,h];refine aa (rM d c (by simp) (aD ⟨x,rfl,aD (j _ ?_ (fg ..))⟩));exact⟨_,lA _ d (Cg (l5 c _)),(Jw ..).trans k,by rw[l5 c];simp[mx]⟩
def qh{c l}{i:Nat}{items Q}(j:A.handled=ZZ)
  (b:s.heap.IsTupleIter c l i)(k:s.heap.IsTuple l items)(n:items[i]?=ZZ)
  (p:∀h' e,Heap.ExtBut c s.heap h'->(∃o,h'.get? e=Z_ o/\o.cls=.type "StopIteration")->E (.ref e) {s with heap:=h'}) :
  bf (bI prog w) A (dS (.ref c)) Q E s:=by
 obtain⟨o,d,hc,f⟩:=id b;obtain⟨ol,g,_,nl,h⟩:=k;unfold dS;refine aa (ft (name:=n6 "__next__") b.typeIs n8
  (dO n8 b.typeIs F.entry_tuple_iterator_next ?_ (F.args_tuple_iterator_next_1 _)))
 show bf _ _ (field (.ref c) 0 >>= _) _ _ s;refine aa (iI d f (x:=.ref l) rfl ?_);show bf _ _ (if (bp l==eG)=ZY then _ else _) _ _ s;rw[i0n (show ¬((bp l==eG)=ZY) from aB)];show bf _ _ (field (.ref c) 1 >>= _) _ _ s;refine aa (iI d f (x:=.int i 0) rfl ?_);show bf _ _ (seqItems? (.ref l) >>= _) _ _ s;refine aa (fA g h ?_);simp only[bA,n];refine aa (yh (aa (rM d f (by simp) ?_)));show bf _ _ (newExc (.type "StopIteration") [] >>= _) _ _ _;refine aa ?_;simp only[newExc,newTuple];refine aa (ff ?_ (by size_fits));refine aa (m:=rN _ _) (wpAny_of_eq (a:=eG) (by first|rfl|(simp only[rN];rfl)) ?_);refine ff ?_ (by size_fits);simp only[raiseNew];refine aa (wpAny_handled ?_);first|rw[show A.in1.handled=ZZ from j]|rw[j]
 refine aa (aD (wpAny_throw ?_));exact p _ _ (((fg ..).extBut.push _).push _) ⟨_,b8 _ rfl,rfl⟩
end
def Nt{prog w}{A:cB}(j:A.handled=ZZ)(a l:ak)(d:l≠a)(items:Array aq):
  Draws prog w A a [a,l] items.size (λi v=>items[i]?=Z_ v) (λi h=>h.IsTupleIter a l i/\h.IsTuple l items) where
 live:=λ_ _ st=>let ⟨o,k,_⟩:=st.1;⟨o,k⟩
 frame:=λ_ _ _ st f=>⟨st.1.at λo e=>f a (by simp) o e,st.2.at λo e=>f l (by simp) o e⟩
 item:=λi s Q E g st m=>by refine kI st.1 st.2 (x:=items[i]) (by simp[g]) λn b c=>?_;exact m _ n s.toks (by simp[g]) ⟨b,st.2.extBut c.extBut d⟩ c
 done:=λs Q E st p=>qh j st.1 st.2 (by simp) p
nonrec def yC(l:ak)(items:Array aq)(n:Nat)(b:Option ak)(f:Array (Option aq)):
  Meets (Builtin.«enumerate.__new__» ⟨[.type "enumerate",.ref l],[]⟩) (λ_ R s=>s.heap.get? l=Z_ {cls:=.type "tuple",dict:=b,data:=.seq items n,slots:=f} /\
   R (.ok (.ret (.ref (s.heap.push {cls:=.type "tuple_iterator",data:=.fields #[.ref l,.int 0 0]}).objs.size)))
    {s with heap:=(s.heap.push {cls:=.type "tuple_iterator",data:=.fields #[.ref l,.int 0 0]}).push {cls:=.type "enumerate",data:=.fields #[.none,.bool ZX,.ref s.heap.objs.size,mx 0,.none,.none]}}):=
 .of_wp λprog w A R s h=>by
  obtain⟨i,g,d,j,os⟩:=s;obtain⟨a,h⟩:=h;have hsub:=sub_enumerate;have e:Heap.IsTuple (Shared.heap ⟨i,g,d,j,os⟩) l items:=⟨_,a,rfl,n,rfl⟩
  wp_walk using m9 a
  refine wpAny_stack_any λst=>aD ?_;split
  .rename_i c _ _ _ _ _;cases (c==iu "enumerate")
   .wp_walk using m9 a,qC e
    exact⟨_,rfl,h⟩
   .wp_walk using m9 a,qC e
    exact⟨_,rfl,h⟩
  .wp_walk using m9 a,qC e
   exact⟨_,rfl,h⟩
section
variable {prog:bF} {w:cD} {A:cB} {E:aq->aA->Prop} {s:aA}
def BA{l items Q}(j:s.heap.IsTuple l items)
  (h:∀h',IsEnum h' (s.heap.objs.size+1) s.heap.objs.size 0 .none->h'.IsTupleIter s.heap.objs.size l 0->h'.objs.size=s.heap.objs.size+2 ->
   (∀b o,s.heap.get? b=Z_ o->h'.get? b=Z_ o)->Q (.ref (s.heap.objs.size+1)) {s with heap:=h'}) :
  bf (bI prog w) A (Kb (.type "enumerate") [.ref l]) Q E s:=by
 obtain⟨⟨c,a,k,m⟩,p,d,n,e⟩:=j
 replace d:c=.type "tuple":=d
 replace e:k=.seq items n:=e
 subst d e;refine callType_new F.called_enumerate (by decide) (F.typeCall_enumerate_1 _) (F.newCall_enumerate_1 _) (λf=>F.args_object_init_2 f _) F.entry_enumerate_new
  (yC l items n a m) ⟨p,?_⟩
 have g:(s.heap.push {cls:=.type "tuple_iterator",data:=.fields #[.ref l,.int 0 0]}).objs.size=s.heap.objs.size+1:=cU ..;show _/\_;rw[g];have i:IsEnum ((s.heap.push {cls:=.type "tuple_iterator",data:=.fields #[.ref l,.int 0 0]}).push
   {cls:=.type "enumerate",data:=.fields #[.none,.bool ZX,.ref s.heap.objs.size,mx 0,.none,.none]}) (s.heap.objs.size+1) s.heap.objs.size 0 .none:=by
  have:=b8 (s.heap.push {cls:=.type "tuple_iterator",data:=.fields #[.ref l,.int 0 0]})
   (o:={cls:=.type "enumerate",data:=.fields #[.none,.bool ZX,.ref s.heap.objs.size,mx 0,.none,.none]}) rfl
  rw[g]at this;exact this
 refine⟨⟨_,i,rfl⟩,h _ i ⟨_,aE _ (b8 _ rfl),rfl,rfl⟩ (by rw[cU,g]) λb o x=>aE _ (aE _ x)⟩
end
section
variable {prog:bF} {w:cD} {A:cB} {E:aq->aA->Prop} {s:aA}
def HD{z TI TO g i m n:ak}{r t:Nat}{xs J:Array aq}{x y a b:aq}{Q:aq->aA->Prop}(D:ZipApart z TI TO g i m n)
  (hz:ym s.heap z TI TO .none)(C:jV s.heap TI (.ref g) (.ref i))(f:jV s.heap TO a b)
  (h1:s.heap.IsTupleIter g m r)(l:s.heap.IsListIter i n t)(F:s.heap.IsTuple m xs)(G:s.heap.IsList n J)(L:xs[r]?=Z_ x)(M:J[t]?=Z_ y)
  (N:∀h',ym h' z TI TO (mx s.heap.objs.size)->jV h' TO x y->h'.IsTupleIter g m (r+1)->h'.IsListIter i n (t+1)->jV h' s.heap.objs.size x y->h'.objs.size=s.heap.objs.size+1 ->
   (∀c o,c≠z->c≠TO->c≠g->c≠i->s.heap.get? c=Z_ o->h'.get? c=Z_ o)->Q (.ref s.heap.objs.size) {s with heap:=h'}) :
  bf (bI prog w) A (Builtin.«zip.__next__» ⟨[.ref z],[]⟩) (λfin O=>∃v,fin=.done (.ret v)/\Q v O) E s:=by
 show bf _ _ (field (.ref z) 2 >>= _) _ _ _;refine aa (iI hz rfl (x:=.bool ZX) rfl ?_);show bf _ _ (field (.ref z) 3 >>= _) _ _ _;refine aa (iI hz rfl (x:=.ref TI) rfl ?_);refine aa (fA C rfl ?_);show bf _ _ (gR (.ref z) >>= _) _ _ _;refine aa ?_;unfold gR;refine aa (iI hz rfl (x:=.none) rfl (aD ?_));simp only[if_true];refine aa (yh ?_);refine aa (iI hz rfl (x:=.ref TO) rfl ?_);refine aa (lQ hz (by simp) λh₁ hz₁ d₁=>?_)
 replace hz₁:ym h₁ z TI TO .ellipsis:=hz₁
 refine aa ?_;simp only[g9,List.zipIdx_nil,AV,v5];refine aa (aa (JC ?_));show bf _ _ (dS (.ref g) >>= _) _ _ _;refine aa (kI (h1.extBut d₁.extBut D.i1z) (F.extBut d₁.extBut D.l1z) L λh₂ h1₂ d₂=>aD ?_);have f₂:jV h₂ TO a b:=d₂.extBut _ _ D.TOi1 (d₁.extBut _ _ D.TOz f);refine aa (fA f₂ rfl ?_);refine aa (GQ f₂ λh₃ f₃ d₃=>?_)
 replace f₃:jV h₃ TO x b:=f₃
 refine aa (wpAny_letGo (aD ?_));refine aa (aa (JC ?_));show bf _ _ (dS (.ref i) >>= _) _ _ _;refine aa (wpAny_nextOf_list_item (((l.extBut d₁.extBut D.i2z).extBut d₂.extBut D.i12.symm).extBut d₃.extBut D.TOi2.symm)
  (((G.extBut d₁.extBut D.l2z).extBut d₂.extBut D.l2i1).extBut d₃.extBut D.l2TO) M λh₄ l₄ d₄=>aD ?_)
 have f₄:jV h₄ TO x b:=d₄.extBut _ _ D.TOi2 f₃;refine aa (fA f₄ rfl ?_);refine aa (GQ f₄ λh₅ f₅ d₅=>?_)
 replace f₅:jV h₅ TO x y:=f₅
 refine aa (wpAny_letGo (aD (aD ?_)));refine aa (fA f₅ rfl ?_);refine aa (wpAny_newTuple ?_);have p:h₅.objs.size=s.heap.objs.size:=by rw[d₅.1,d₄.1,d₃.1,d₂.1,d₁.1]
 have hz₅:ym h₅ z TI TO .ellipsis:=d₅.extBut _ _ D.TOz.symm (d₄.extBut _ _ D.i2z.symm (d₃.extBut _ _ D.TOz.symm (d₂.extBut _ _ D.i1z.symm hz₁)));have P₅:∀c o,c≠z->c≠TO->c≠g->c≠i->s.heap.get? c=Z_ o->h₅.get? c=Z_ o:=λc o k u H I e=>d₅.extBut _ _ u (d₄.extBut _ _ I (d₃.extBut _ _ u (d₂.extBut _ _ H (d₁.extBut _ _ k e))))
 have h1₅:h₅.IsTupleIter g m (r+1):=((h1₂.extBut d₃.extBut D.TOi1.symm).extBut d₄.extBut D.i12).extBut d₅.extBut D.TOi1.symm;have l₅:h₅.IsListIter i n (t+1):=l₄.extBut d₅.extBut D.TOi2.symm;have j:z<h₅.objs.size:=b7 hz₅;have hTOlt:TO<h₅.objs.size:=b7 f₅;have hi1lt:g<h₅.objs.size:=by obtain⟨_,e,_⟩:=h1₅;exact b7 e
 have hi2lt:i<h₅.objs.size:=by obtain⟨_,e,_⟩:=l₅;exact b7 e
 show bf _ _ (v8 (.ref z) (.ref h₅.objs.size) >>= _) _ _ _;refine aa ?_;unfold v8;have hz₆:ym (h₅.push {cls:=.type "tuple",data:=.seq #[x,y]}) z TI TO .ellipsis:=aE _ hz₅;refine aa (lQ hz₆ (by simp) λh₇ hz₇ d₇=>?_)
 replace hz₇:ym h₇ z TI TO (mx h₅.objs.size):=hz₇
 refine lQ hz₇ (by simp) λh₈ hz₈ d₈=>?_
 replace hz₈:ym h₈ z TI TO (mx h₅.objs.size):=hz₈
 have B:∀c o,c≠z->h₅.get? c=Z_ o->h₈.get? c=Z_ o:=λc o k e=>d₈.extBut _ _ k (d₇.extBut _ _ k (aE _ e));have K₈:jV h₈ h₅.objs.size x y:=d₈.extBut _ _ (m_ j) (d₇.extBut _ _ (m_ j) (b8 _ rfl));have q:h₈.objs.size=h₅.objs.size+1:=by rw[d₈.1,d₇.1,cU]
 rw[p]at hz₈ K₈ q;refine aD ⟨_,rfl,?_⟩;show Q (.ref h₅.objs.size) _;rw[p];exact N h₈ hz₈ (B _ _ D.TOz f₅) (h1₅.at λo e=>B _ o D.i1z e) (l₅.at λo e=>B _ o D.i2z e) K₈ q λc o k u H I e=>B c o k (P₅ c o k u H I e)
def JF{z TI TO k l q r}{t u:Nat}{xs v a b Q}(I:A.handled=ZZ)(D:ZipApart z TI TO k l q r)
  (hz:ym s.heap z TI TO .none)(y:jV s.heap TI (.ref k) (.ref l))(g:jV s.heap TO a b)
  (h1:s.heap.IsTupleIter k q t)(K:s.heap.IsListIter l r u)(m:s.heap.IsTuple q xs)(B:s.heap.IsList r v)(n:xs[t]?=ZZ\/v[u]?=ZZ)
  (J:∀h' e,(∀c o,c≠z->c≠TO->c≠k->c≠l->s.heap.get? c=Z_ o->h'.get? c=Z_ o)->(∃o,h'.get? e=Z_ o/\o.cls=.type "StopIteration")->E (.ref e) {s with heap:=h'}) :
  bf (bI prog w) A (Builtin.«zip.__next__» ⟨[.ref z],[]⟩) Q E s:=by
 show bf _ _ (field (.ref z) 2 >>= _) _ _ _;refine aa (iI hz rfl (x:=.bool ZX) rfl ?_);show bf _ _ (field (.ref z) 3 >>= _) _ _ _;refine aa (iI hz rfl (x:=.ref TI) rfl ?_);refine aa (fA y rfl ?_);show bf _ _ (gR (.ref z) >>= _) _ _ _;refine aa ?_;unfold gR;refine aa (iI hz rfl (x:=.none) rfl (aD ?_));simp only[if_true];refine aa (yh ?_);refine aa (iI hz rfl (x:=.ref TO) rfl ?_);refine aa (lQ hz (by simp) λh₁ hz₁ d₁=>?_)
 replace hz₁:ym h₁ z TI TO .ellipsis:=hz₁
 refine aa ?_;simp only[g9,List.zipIdx_nil,AV,v5];refine aa (aa (JC ?_));show bf _ _ (dS (.ref k) >>= _) _ _ _;cases C:xs[t]? with
 |none=>
  refine aa (qh I (h1.extBut d₁.extBut D.i1z) (m.extBut d₁.extBut D.l1z) C λh₂ e d₂ F=>?_);obtain⟨G,f,i⟩:=F;have hz₂:ym h₂ z TI TO .ellipsis:=d₂ _ _ D.i1z.symm hz₁;have j:e≠z:=λx=>by subst x;rw[hz₂]at f;cases f;simp at i
  refine lQ hz₂ (by simp) λh₃ _ d₃=>J h₃ e (λc o p _ H _ x=>d₃.extBut _ _ p (d₂ _ _ H (d₁.extBut _ _ p x))) ⟨G,d₃.extBut _ _ j f,i⟩
 |some x=>
  have L:v[u]?=ZZ:=by rcases n with h|h;rw[C]at h;cases h;exact h
  refine aa (kI (h1.extBut d₁.extBut D.i1z) (m.extBut d₁.extBut D.l1z) C λh₂ h1₂ d₂=>aD ?_);have g₂:jV h₂ TO a b:=d₂.extBut _ _ D.TOi1 (d₁.extBut _ _ D.TOz g);refine aa (fA g₂ rfl ?_);refine aa (GQ g₂ λh₃ g₃ d₃=>?_);refine aa (wpAny_letGo (aD ?_));refine aa (aa (JC ?_));show bf _ _ (dS (.ref l) >>= _) _ _ _;refine aa (wpAny_nextOf_list_end I (((K.extBut d₁.extBut D.i2z).extBut d₂.extBut D.i12.symm).extBut d₃.extBut D.TOi2.symm)
   (((B.extBut d₁.extBut D.l2z).extBut d₂.extBut D.l2i1).extBut d₃.extBut D.l2TO) L λh₄ e d₄ F=>?_)
  obtain⟨G,f,i⟩:=F;have hz₄:ym h₄ z TI TO .ellipsis:=d₄ _ _ D.i2z.symm (d₃.extBut _ _ D.TOz.symm (d₂.extBut _ _ D.i1z.symm hz₁));have j:e≠z:=λx=>by subst x;rw[hz₄]at f;cases f;simp at i
  refine lQ hz₄ (by simp) λh₅ _ d₅=>J h₅ e (λc o p M H N x=>d₅.extBut _ _ p (d₄ _ _ N (d₃.extBut _ _ M (d₂.extBut _ _ H (d₁.extBut _ _ p x))))) ⟨G,d₅.extBut _ _ j f,i⟩
def wd{z TI TO d e f g}{h i:Nat}{xs n x y a b Q}(D:ZipApart z TI TO d e f g)
  (hz:ym s.heap z TI TO .none)(j:jV s.heap TI (.ref d) (.ref e))(k:jV s.heap TO a b)
  (h1:s.heap.IsTupleIter d f h)(q:s.heap.IsListIter e g i)(l:s.heap.IsTuple f xs)(m:s.heap.IsList g n)(r:xs[h]?=Z_ x)(t:n[i]?=Z_ y)
  (u:∀h',ym h' z TI TO (mx s.heap.objs.size)->jV h' TO x y->h'.IsTupleIter d f (h+1)->h'.IsListIter e g (i+1)->jV h' s.heap.objs.size x y->h'.objs.size=s.heap.objs.size+1 ->
   (∀c o,c≠z->c≠TO->c≠d->c≠e->s.heap.get? c=Z_ o->h'.get? c=Z_ o)->Q (Z_ (.ref s.heap.objs.size)) {s with heap:=h'}) :
  bf (bI prog w) A (qy (.ref z)) Q E s:=by
 have p:s.TypeIs (.ref z) "zip":=⟨_,hz,rfl⟩
 unfold qy;exact aa (uf (ft (name:=n6 "__next__") p Cm
  (dO Cm p F.entry_zip_next
   (HD D hz j k h1 q l m r t λh' v B C G H I J=>aD (u h' v B C G H I J)) (F.args_zip_next_1 _))))
def ye{z TI TO f g h i}{n p:Nat}{xs q a b Q}(t:A.handled=ZZ)(D:ZipApart z TI TO f g h i)
  (hz:ym s.heap z TI TO .none)(j:jV s.heap TI (.ref f) (.ref g))(k:jV s.heap TO a b)
  (h1:s.heap.IsTupleIter f h n)(u:s.heap.IsListIter g i p)(l:s.heap.IsTuple h xs)(m:s.heap.IsList i q)(d:xs[n]?=ZZ\/q[p]?=ZZ)
  (v:∀h',(∀c o,c≠z->c≠TO->c≠f->c≠g->s.heap.get? c=Z_ o->h'.get? c=Z_ o)->Q ZZ {s with heap:=h'}):bf (bI prog w) A (qy (.ref z)) Q E s:=by
 have r:s.TypeIs (.ref z) "zip":=⟨_,hz,rfl⟩
 unfold qy;refine aa (uf (ft (name:=n6 "__next__") r Cm
  (dO Cm r F.entry_zip_next (JF t D hz j k h1 u l m d λh' e x y=>?_) (F.args_zip_next_1 _))))
 obtain⟨o,B,C⟩:=y;refine aa (tI (T:="StopIteration") (b:=ZY) ⟨o,B,C⟩ isSubtype_stop ?_);exact aD (v _ x)
end
abbrev Qw(h:cQ)(a:ak):cQ:=h.push {cls:=.type "tuple_iterator",data:=.fields #[.ref a,.int 0 0]}
abbrev Qx(h:cQ)(a b:ak):cQ:=(Qw h a).push {cls:=.type "list_iterator",data:=.fields #[.ref b,.int 0 0]}
abbrev Qy(h:cQ)(a b:ak):cQ:=(Qx h a b).push {cls:=.type "tuple",data:=.seq #[.ref h.objs.size,.ref (Qw h a).objs.size]}
abbrev Qz(h:cQ)(a b:ak):cQ:=(Qy h a b).push {cls:=.type "tuple",data:=.seq #[.none,.none]}
abbrev HE(h:cQ)(a b:ak):cQ:=(Qz h a b).push {cls:=.type "zip",data:=.fields #[.none,.bool ZX,.bool ZX,.ref (Qx h a b).objs.size,.ref (Qy h a b).objs.size]}
def HF(a b:ak)(xs j:Array aq):
  Meets (Builtin.«zip.__new__» ⟨[.type "zip",.ref a,.ref b],[]⟩) (λ_ R s=>s.heap.IsTuple a xs/\s.heap.IsList b j /\
   R (.ok (.ret (.ref (Qz s.heap a b).objs.size))) {s with heap:=HE s.heap a b}):=
 .of_wp λprog w A R s h=>by
  obtain⟨k,g,d,l,os⟩:=s;obtain⟨c,e,h⟩:=h;have hsub:=sub_zip;have f:Heap.IsTuple (Shared.heap ⟨k,g,d,l,os⟩) a xs:=c;have i:Heap.IsList (Shared.heap ⟨k.push {cls:=.type "tuple_iterator",data:=.fields #[.ref a,.int 0 0]},g,d,l,os⟩) b j:=Heap.IsList.push e _
  wp_walk using qC f,Aw i
  exact⟨_,rfl,h⟩
section
variable {prog:bF} {w:cD} {A:cB} {E:aq->aA->Prop} {s:aA}
def RN{a b xs m Q}(d:s.heap.IsTuple a xs)(e:s.heap.IsList b m)
  (h:∀h',ym h' (s.heap.objs.size+4) (s.heap.objs.size+2) (s.heap.objs.size+3) .none->jV h' (s.heap.objs.size+2) (.ref s.heap.objs.size) (.ref (s.heap.objs.size+1)) ->
   jV h' (s.heap.objs.size+3) .none .none->h'.IsTupleIter s.heap.objs.size a 0->h'.IsListIter (s.heap.objs.size+1) b 0->h'.objs.size=s.heap.objs.size+5 ->
   (∀c o,s.heap.get? c=Z_ o->h'.get? c=Z_ o)->Q (.ref (s.heap.objs.size+4)) {s with heap:=h'}) :
  bf (bI prog w) A (Kb (.type "zip") [.ref a,.ref b]) Q E s:=by
 refine callType_new F.called_zip (by decide) (F.typeCall_zip_2 _ _) (F.newCall_zip_2 _ _) (λf=>F.args_object_init_3 f _ _) F.entry_zip_new
  (HF a b xs m) ⟨d,e,?_⟩
 have g:(Qw s.heap a).objs.size=s.heap.objs.size+1:=cU ..;have i:(Qx s.heap a b).objs.size=s.heap.objs.size+2:=by rw[cU,g]
 have j:(Qy s.heap a b).objs.size=s.heap.objs.size+3:=by rw[cU,i]
 have k:(Qz s.heap a b).objs.size=s.heap.objs.size+4:=by rw[cU,j]
 have q:(HE s.heap a b).objs.size=s.heap.objs.size+5:=by rw[cU,k]
 have l:(HE s.heap a b).get? (Qz s.heap a b).objs.size=Z_ _:=b8 _ rfl;have n:(HE s.heap a b).get? (Qy s.heap a b).objs.size=Z_ _:=aE _ (b8 _ rfl);have g3:(HE s.heap a b).get? (Qx s.heap a b).objs.size=Z_ _:=aE _ (aE _ (b8 _ rfl));have p:(HE s.heap a b).get? (Qw s.heap a).objs.size=Z_ _:=aE _ (aE _ (aE _ (b8 _ rfl)));have r:(HE s.heap a b).get? s.heap.objs.size=Z_ _:=aE _ (aE _ (aE _ (aE _ (b8 _ rfl))));show _/\_;rw[i,j,k]at l;rw[g,i]at g3;rw[j]at n;rw[g]at p;rw[k];exact⟨⟨_,l,rfl⟩,h _ l g3 n ⟨_,r,rfl,rfl⟩ ⟨_,p,rfl,rfl⟩ q λc o x=>aE _ (aE _ (aE _ (aE _ (aE _ x))))⟩
end
end L2T
namespace L2
open PySem PySem.Spec PyProof.Rows
def Y7(K:ab)(a:ak):It:=⟨λi H=>∃(b:List V) (x:V),oQ K H a b/\b[i]?=Z_ x,λi H v c=>∃T x,v=.ref T/\H T=ZZ/\c=gw H T (.tup [.int (i:Nat),x])/\∀b,oQ K H a b->b[i]?=Z_ x,λi H=>∃b:List V,oQ K H a b/\b.length=i⟩
def Nu{h:cQ}{e d a}{n:Int}{b items}(he:IsEnum h e d n b)(f:h.IsTuple a items):e≠a:=by rintro rfl;obtain⟨o,c,g,_⟩:=f;rw[he]at c;cases c;simp at g
def Fp{h:cQ}{e a b}{i:Nat}{items}(f:h.IsTupleIter e a i)(g:h.IsTuple b items):b≠e:=by rintro rfl;obtain⟨o,j,k,_⟩:=g;obtain⟨o',c,d,_⟩:=f;rw[j]at c;cases c;rw[k]at d;simp at d
def P1{P w K elts}{kk:Nat}{t}(a e f:ak):
  Gb P w K (.Tuple elts kk t) (Y7 K a) [e,f] e (λi h=>(∃g,IsEnum h e f ((i:Nat):Int) g)/\h.IsTupleIter f a i/\e≠f) where
 mem:=by simp
 obj:=λi h st b m=>by
  obtain⟨⟨g,l⟩,⟨o,M,F,hd⟩,_⟩:=st;have N:b=e\/b=f:=by simpa using m
  rcases N with z|z
  .rw[z];exact⟨_,l,λv q=>nomatch q⟩
  .rw[z];exact⟨o,M,λv q=>by rw[hd]at q;cases q⟩
 keep:=λi h O st k=>let ⟨⟨g,l⟩,hi,d⟩:=st;⟨⟨g,k e (by simp) _ l⟩,hi.at λo q=>k f (by simp) o q,d⟩
 item:=by
  intro X R hw S F i pins s σ H E I G st T;subst R hw S;obtain⟨⟨g,l⟩,j,d⟩:=st;obtain⟨xs,x,J,U⟩:=T;obtain⟨c,V,p,hz⟩:=I.tuple J;obtain⟨u,hu,ru⟩:=V.get U;have y:e<s.heap.objs.size:=b7 l;have W:f<s.heap.objs.size:=by obtain⟨_,q,_⟩:=j;exact b7 q
  have r:s.heap.IsTuple a c.toArray:=p;have Y:=Fp j r;have Z:=Nu l r;have hlt:i<c.toArray.size:=by have q:=(ax.mp hu).1;simpa using q
  refine wpAny_pyNext_enum_itemD (L2T.Nt (A:=X.A.in1) (I.ok.hd F) f a Y c.toArray) l ⟨j,r⟩ hlt d (by simp[d,Z]) λB O L hPx M C hT D hk=>?_;have ex:B=u:=by
   have q:c.toArray[i]?=Z_ B:=hPx;have q2:c.toArray[i]?=Z_ u:=by simpa using hu
   rw[q2]at q;exact (az q).symm
  subst ex;refine⟨_,rfl,wpAny_letOwnedTupleGo_enum (s:={s with heap:=O,toks:=L+1}) M λn he' sb=>?_⟩;have hT2:n.get? s.heap.objs.size=Z_ {cls:=.type "tuple",data:=.seq #[.int i L,B]}:=(sb.2 _ (m_ y)).trans hT;have new:iz X.prog X.w (gw H s.heap.objs.size (.tup [.int (i:Nat),x])) n s.heap.objs.size (.tup [.int (i:Nat),x]):=⟨by show 2<=bc;decide,[.int i L,B],.cons ⟨_,rfl⟩ (.cons ru .nil),⟨_,hT2,rfl,_,rfl⟩⟩
  have I1:cq X pins σ (gw H s.heap.objs.size (.tup [.int (i:Nat),x])) {s with heap:=n,toks:=L+1}:=I.a2K (ch:=[e,f]) (λb ob m q=>(sb.2 b (λz=>m (by simp[z]))).trans (hk b ob (λz=>m (by simp[z])) (λz=>m (by simp[z])) q)) G (aN _) new
  refine⟨.ref s.heap.objs.size,_,I1,rfl,⟨_,x,rfl,I.hok.fresh (aN _),rfl,λys hy=>by rwa[I.a3p hy J]⟩,⟨⟨B,?_⟩,C.1.at λo q=>(sb.2 f (aG d)).trans q,d⟩,λb m=>?_⟩
  .have e1:((i+1:Nat):Int)=(i:Int)+1:=by lia
   rwa[e1]
  .have hb':b<s.heap.objs.size:=by
    have N:b=e\/b=f:=by simpa using m
    rcases N with z|z
    .rwa[z]
    .rwa[z]
   rw[dy (b_ hb')];exact (G b m).1
 done:=by
  intro X R hw S F i pins s σ H E I G st T;subst R hw S;obtain⟨⟨g,l⟩,j,d⟩:=st;obtain⟨xs,J,U⟩:=T;obtain⟨c,V,p,hz⟩:=I.tuple J;have r:s.heap.IsTuple a c.toArray:=p;have hl:=V.length;obtain⟨f0,f1,f2,f3,f4,f5⟩:=G f (by simp);have D:c.toArray.size=i:=by simp;lia
  have hst:(λi h=>h.IsTupleIter f a i/\h.IsTuple a c.toArray) c.toArray.size s.heap:=by rw[D];exact⟨j,r⟩
  exact wpAny_pyNext_enum_endD (L2T.Nt (A:=X.A.in1) (I.ok.hd F) f a (Fp j r) c.toArray) l hst λO eb=>⟨rfl,I.turned (t':=s.toks) (λb o m q=>eb b o m q) f0 f1 f3 f4 f5⟩
 self:=λA i s Q E st h=>let ⟨⟨_,l⟩,_⟩:=st;Az l h
def Y8(K:ab)(d:TA):TI:=λσ H R=>d σ H λe b=>∃a c,e=[.ref a]/\((ny K b a c/\(c.length<=bc->R (a1i K a) b))\/(oQ K b a c/\(c.length<=bc->R (Y7 K a) b)))
def TJ{X:Cx}{e w p g i elts}{y:Nat}(A:Gl X "enumerate")(hm:X.mg "enumerate"=ZZ)(B:PA X [e] w)(hs:1<|aU [e] X.env=[(ZX,dh e X.env)]):
  PI X (.Tuple elts y i) (.Call (.Name "enumerate" p) [e] [] g) (Y8 X.K w):=by
 intro pins s σ H R I h;refine Call_ (Bx I A hm boot_enumerate (fR (jk (B g pins s σ H _ I h) λus c Z=>Z23 Z λvs m f C D=>?_) hs rfl));obtain⟨a,xs,E,q⟩:=D;subst E;cases C with
 |cons r F=>
  cases F;cases r;have x:∀b∈[c.heap.objs.size+1,c.heap.objs.size],Cq X pins m b:=λb G=>by
   have J:b=c.heap.objs.size+1\/b=c.heap.objs.size:=by simpa using G
   have j:c.heap.objs.size<=b:=by
    rcases J with z|z
    .rw[z];exact Nat.le_add_right _ _
    .rw[z];exact aN _
   exact f.a4M j (f.hok.fresh j)
  rcases q with⟨n,q⟩|⟨n,q⟩
  .obtain⟨k,L,o,t⟩:=f.list n;refine call_enumerate_list o.isList λM l d u v=>Az l ?_;exact⟨c.heap.objs.size+1,[c.heap.objs.size+1,c.heap.objs.size],_,_,m,rfl,f.kept (t':=c.toks) v,RJ a (c.heap.objs.size+1) c.heap.objs.size,⟨⟨.none,l⟩,d,Nat.succ_ne_self _⟩,x,q t⟩
  .obtain⟨k,L,o,t⟩:=f.tuple n;refine L2T.BA (show c.heap.IsTuple a k.toArray from o) λM l d u v=>Az l ?_;exact⟨c.heap.objs.size+1,[c.heap.objs.size+1,c.heap.objs.size],_,_,m,rfl,f.kept (t':=c.toks) v,P1 a (c.heap.objs.size+1) c.heap.objs.size,⟨⟨.none,l⟩,d,Nat.succ_ne_self _⟩,x,q t⟩
end L2
namespace L2
open PySem PySem.Spec PyProof.Rows
def Y9(K:ab)(a b:ak):It:=
 ⟨λi H=>∃(c d:List V) (x y:V),oQ K H a c/\ny K H b d/\c[i]?=Z_ x/\d[i]?=Z_ y,
  λi H v e=>∃T x y,v=.ref T/\H T=ZZ/\e=gw H T (.tup [x,y])/\(∀c,oQ K H a c->c[i]?=Z_ x)/\∀d,ny K H b d->d[i]?=Z_ y,
  λi H=>∃c d:List V,oQ K H a c/\ny K H b d/\(c.length<=i\/d.length<=i)⟩
def RP{P w K elts}{kk:Nat}{M a b z TI TO j m}(D:ZipApart z TI TO j m a b):
  Gb P w K (.Tuple elts kk M) (Y9 K a b) [z,TI,TO,j,m] z (λi h=>ym h z TI TO .none/\jV h TI (.ref j) (.ref m)/\(∃x y,jV h TO x y)/\h.IsTupleIter j a i/\h.IsListIter m b i) where
 mem:=by simp
 obj:=λi h st c S=>by
  obtain⟨B,d,⟨x,y,e⟩,⟨o1,W,_,d1⟩,⟨o2,Y,_,d2⟩⟩:=st;have Z:c=z\/c=TI\/c=TO\/c=j\/c=m:=by simpa using S
  rcases Z with q|q|q|q|q
  .rw[q];exact⟨_,B,λv q=>nomatch q⟩
  .rw[q];exact⟨_,d,λv q=>nomatch q⟩
  .rw[q];exact⟨_,e,λv q=>nomatch q⟩
  .rw[q];exact⟨o1,W,λv q=>by rw[d1]at q;cases q⟩
  .rw[q];exact⟨o2,Y,λv q=>by rw[d2]at q;cases q⟩
 keep:=λi h h' st k=>by obtain⟨B,d,⟨x,y,e⟩,h1,J⟩:=st;exact⟨k z (by simp) _ B,k TI (by simp) _ d,⟨x,y,k TO (by simp) _ e⟩,h1.at λo q=>k j (by simp) o q,J.at λo q=>k m (by simp) o q⟩
 item:=by
  intro X hP hw hK S i pins s σ H E I T st hg;subst hP hw hK;obtain⟨B,d,⟨x0,y0,e⟩,h1,J⟩:=st;obtain⟨xs,ys,x,y,n,r,hx,hy⟩:=hg;obtain⟨t,rv,p,_⟩:=I.tuple n;obtain⟨C,F,p2,_⟩:=I.list r;obtain⟨u,hu,ru⟩:=rv.get hx;obtain⟨U,hu2,ru2⟩:=F.get hy;have N:z<s.heap.objs.size:=b7 B;refine L2T.wd D B d e h1 J (show s.heap.IsTuple a t.toArray from p) p2.isList (x:=u) (y:=U) (by simpa using hu) (by simpa using hu2) λh' z' TO' h1' h2' hT hsz V=>?_;refine⟨_,rfl,wpAny_letOwnedTupleGo_zip (s:={s with heap:=h'}) z' λG z'' L=>?_⟩;have hT2:G.get? s.heap.objs.size=Z_ {cls:=.type "tuple",data:=.seq #[u,U]}:=(L.2 _ (m_ N)).trans hT;have new:iz X.prog X.w (gw H s.heap.objs.size (.tup [x,y])) G s.heap.objs.size (.tup [x,y]):=⟨by show 2<=bc;decide,[u,U],.cons ru (.cons ru2 .nil),⟨_,hT2,rfl,_,rfl⟩⟩
  have I1:cq X pins σ (gw H s.heap.objs.size (.tup [x,y])) {s with heap:=G}:=I.a2K (t':=s.toks) (ch:=[z,TI,TO,j,m]) (λc o g q=>(L.2 c (λf=>g (by simp[f]))).trans (V c o (λf=>g (by simp[f])) (λf=>g (by simp[f])) (λf=>g (by simp[f])) (λf=>g (by simp[f])) q)) T (aN _) new
  refine⟨.ref s.heap.objs.size,_,I1,rfl,⟨_,x,y,rfl,I.hok.fresh (aN _),rfl,λl hl=>by rwa[I.a3p hl n],λl hl=>by rwa[I.a2H hl r]⟩,⟨z'',?_,⟨u,U,?_⟩,?_,?_⟩,λc O=>?_⟩
  .exact (L.2 _ D.TIz).trans (V _ _ D.TIz D.TITO D.TIi1 D.TIi2 d)
  .exact (L.2 _ D.TOz).trans TO'
  .exact h1'.at λo q=>(L.2 _ D.i1z).trans q
  .exact h2'.at λo q=>(L.2 _ D.i2z).trans q
  .have hlt:c<s.heap.objs.size:=by
    have Z:c=z\/c=TI\/c=TO\/c=j\/c=m:=by simpa using O
    rcases Z with q|q|q|q|q
    .rwa[q]
    .rw[q];exact b7 d
    .rw[q];exact b7 e
    .rw[q];obtain⟨_,W,_⟩:=h1;exact b7 W
    .rw[q];obtain⟨_,Y,_⟩:=J;exact b7 Y
   rw[dy (b_ hlt)];exact (T c O).1
 done:=by
  intro X hP hw hK S i pins s σ H E I T st hg;subst hP hw hK;obtain⟨B,d,⟨x0,y0,e⟩,h1,J⟩:=st;obtain⟨xs,ys,n,r,R⟩:=hg;obtain⟨t,rv,p,_⟩:=I.tuple n;obtain⟨C,F,p2,_⟩:=I.list r;have l1:=rv.length;have l2:=F.length;have he:t.toArray[i]?=ZZ\/C.toArray[i]?=ZZ:=by
   rcases R with q|q
   .exact .inl (by simp;lia)
   .exact .inr (by simp;lia)
  exact L2T.ye (I.ok.hd S) D B d e h1 J (show s.heap.IsTuple a t.toArray from p) p2.isList he λh' V=>⟨rfl,I.a4x (t':=s.toks) (ch:=[z,TI,TO,j,m]) (λc o g q=>V c o (λf=>g (by simp[f])) (λf=>g (by simp[f])) (λf=>g (by simp[f])) (λf=>g (by simp[f])) q) T⟩
 self:=λA i s Q E st h=>Ci st.1 h
def ZM(K:ab)(e:TA):TI:=λσ H R=>e σ H λf c=>∃a b d g,f=[.ref a,.ref b]/\ny K c b g/\((ny K c a d/\(d.length<=bc->R (a1j K a b) c))\/(oQ K c a d/\(d.length<=bc->R (Y9 K a b) c)))
def VZ{X:Cx}{e m J p f n elts}{M:Nat}(N:Gl X "zip")(hm:X.mg "zip"=ZZ)(O:PA X [e,m] J)
  (hs:1<|aU [e,m] X.env=(ZX,dh e X.env)::aU [m] X.env)(x:1<|(gU f (aU [m] X.env)).any (·.1)=ZX) :
  PI X (.Tuple elts M n) (.Call (.Name "zip" p) [e,m] [] f) (ZM X.K J):=by
 intro pins s σ H R I h;refine Call_ (Bx I N hm RL (fR (jk (O f pins s σ H _ I h) λus d Z=>Z23 Z λvs y g P Q=>?_) hs x));obtain⟨a,b,xs,ys,S,z,q⟩:=Q;subst S;cases P with
 |cons r A=>
  cases A with
  |cons T A=>
   cases A;cases r;cases T;obtain⟨its2,rv2,B,_⟩:=g.list z;have lb:b<d.heap.objs.size:=B.lt;have L:∀c∈[d.heap.objs.size+4,d.heap.objs.size+2,d.heap.objs.size+3,d.heap.objs.size,d.heap.objs.size+1],Cq X pins y c:=λc C=>by
    have o:d.heap.objs.size<=c:=by simp only[aL,yr,or_false]at C;lia
    exact g.a4M o (g.hok.fresh o)
   rcases q with⟨i,q⟩|⟨i,q⟩
   .obtain⟨t,U,w,j⟩:=g.list i;have D:a<d.heap.objs.size:=w.lt;refine call_zip_2 w.isList B.isList λV u k l h1 E F G=>Ci u ?_;exact⟨_,_,_,_,y,rfl,g.kept (t':=d.toks) G,TC (PySem.W.ktu_apart d.heap.objs.size a b D lb),⟨u,k,⟨_,_,l⟩,h1,E⟩,L,q j⟩
   .obtain⟨t,U,w,j⟩:=g.tuple i;have v:d.heap.IsTuple a t.toArray:=w;have D:a<d.heap.objs.size:=by obtain⟨_,Y,_⟩:=v;exact b7 Y
    refine L2T.RN v B.isList λV u k l h1 E F G=>Ci u ?_;exact⟨_,_,_,_,y,rfl,g.kept (t':=d.toks) G,RP (PySem.W.ktu_apart d.heap.objs.size a b D lb),⟨u,k,⟨_,_,l⟩,h1,E⟩,L,q j⟩
end L2
namespace L2
open PySem PySem.Spec PyProof.Rows
section
variable {prog:bF} {w:cD} {A:cB} {E:aq->aA->Prop} {s:aA}
def E2(d:ak)(a:(d==eX)=ZX):
  MeetsIn prog w (Builtin.«dict.values» ⟨[.ref d],[]⟩) (λ_ R s=>(s.TypeIs (.ref d) "dict") /\
   R (.ok (.ret (.ref s.heap.objs.size))) {s with heap:=s.heap.push {cls:=.type "dict_values",data:=.fields #[.ref d]}}):=
 .of_wp λA R s ⟨b,h⟩=>by refine aa ?_;unfold Builtin.Dict.noArgs;refine aa (tu b ?_);show bf _ _ (pure d) _ _ s;refine aD ?_;show bf _ _ (oO d >>= _) _ _ s;unfold oO;rw[i0n (by rw[a];exact aB)];refine aa (aD ?_);exact aa (ff (aD ⟨_,rfl,h⟩))
def RQ{v d}{o:Obj}{es}{ep:Nat}{Q}(c:s.heap.IsValuesView v d)(g:s.heap.get? d=Z_ o)(a:o.data=.dict es ep)
  (h:Q (.ref s.heap.objs.size) {s with heap:=s.heap.push {cls:=.type "dict_valueiterator",data:=.fields #[.ref d,.int 0 0,.int es.size 0,.int ep 0]}}) :
  bf (bI prog w) A (pyIter (.ref v)) Q E s:=by
 obtain⟨ov,e,hcv,f⟩:=id c;refine wpAny_pyIter_slot c.typeIs F.slot_dict_values_iter (dO F.slot_dict_values_iter c.typeIs F.entry_dict_values_iter ?_ (F.args_dict_values_iter_1 _));unfold Builtin.«dict_values.__iter__»;refine aa (aD ?_);refine aa ?_;unfold Builtin.Dict_items.dictOf;refine aa (iI e f (x:=.ref d) rfl (aD ?_));refine aa ?_;unfold Builtin.Dict_items.newIterator;refine aa (kq g a ?_);refine aa (qf g a ?_);have b:gG "dict_valueiterator"=ZX:=by decide
 simp only[b,bR,if_false];refine ff (aD ⟨_,rfl, "dict_valueiterator",_,⟨_,b8 _ rfl,rfl⟩,F.slot_dict_valueiterator_next.lookup,?_⟩);simpa[mx] using h
def JG{c d}{i n ep:Nat}{m:Obj}{es:Array fq}{p:fq}{Q}(a:s.heap.IsValIter c d i n ep)(e:s.heap.get? d=Z_ m)(f:m.data=.dict es ep)
  (hsz:es.size=n)(q:es[i]?=Z_ p)(r:∀h',h'.IsValIter c d (i+1) n ep->jB c s.heap h'->Q (Z_ p.val) {s with heap:=h'}):bf (bI prog w) A (qy (.ref c)) Q E s:=by
 obtain⟨o,k,t,j⟩:=id a;unfold qy;refine aa (uf (ft (name:=n6 "__next__") a.typeIs h_
  (dO h_ a.typeIs LM ?_ (Kc _))))
 refine aa (aD ?_);refine aa ?_;refine aa ?_;first|refine aa (lC a.typeIs (aD ?_))|refine aa (pN a.typeIs (aD ?_))
 refine aa (GP k j ?_);have g:gG "dict_valueiterator"=ZX:=by decide
 simp only[g,bR,if_false];show bf _ _ (if (bp d==eG)=ZY then _ else _) _ _ s;rw[i0n (show ¬((bp d==eG)=ZY) from aB)];refine aa (aD ?_);refine aa (kq e f ?_);rw[i0n (by rw[hsz];simp)];refine aa (aD ?_);refine aa (qf e f ?_);rw[i0n (by simp)];refine aD ?_;obtain⟨h,l⟩:=Array.getElem?_eq_some_iff.mp q;simp only[show ¬((i:Int)<0) from by lia,if_false,bA,Array.getElem?_eq_getElem h];refine aa ?_;first|refine aa (lC a.typeIs (aD ?_))|refine aa (pN a.typeIs (aD ?_))
 refine aa (Fh a.typeIs ?_);show bf _ _ (setField (.ref c) 1 (mx ((i:Int)+1)) >>= _) _ _ s;refine aa (rM k j (by simp) ?_);have b:(s.heap.update c (yl (·.setIfInBounds 1 (mx ((i:Int)+1))))).IsValIter c d (i+1) n ep:=⟨_,lA _ k (Cg (l5 j _)),(Jw ..).trans t,by rw[l5 j];simp[mx]⟩
 refine aa (iw ?_);refine aa (Fh (s:={s with heap:=s.heap.update c (yl (·.setIfInBounds 1 (mx ((i:Int)+1))))}) b.typeIs ?_);refine aa (Fh (s:={s with heap:=s.heap.update c (yl (·.setIfInBounds 1 (mx ((i:Int)+1))))}) b.typeIs ?_);show bf _ _ (pure es[i].val) _ _ _;rw[l];exact aD (aD ⟨_,rfl,aD (r _ b (fg ..))⟩)
def LX{j d}{i n ep:Nat}{l:Obj}{es:Array fq}{Q}(r:A.handled=ZZ)(c:s.heap.IsValIter j d i n ep)(e:s.heap.get? d=Z_ l)(f:l.data=.dict es ep)
  (hsz:es.size=n)(k:n<=i)(t:∀h',Heap.ExtBut j s.heap h'->Q ZZ {s with heap:=h'}):bf (bI prog w) A (qy (.ref j)) Q E s:=by
 obtain⟨o,p,hc,q⟩:=id c;unfold qy;refine aa (uf (ft (name:=n6 "__next__") c.typeIs h_
  (dO h_ c.typeIs LM ?_ (Kc _))))
 refine aa (aD ?_);refine aa ?_;refine aa ?_;first|refine aa (lC c.typeIs (aD ?_))|refine aa (pN c.typeIs (aD ?_))
 refine aa (GP p q ?_);have g:gG "dict_valueiterator"=ZX:=by decide
 simp only[g,bR,if_false];show bf _ _ (if (bp d==eG)=ZY then _ else _) _ _ s;rw[i0n (show ¬((bp d==eG)=ZY) from aB)];refine aa (aD ?_);refine aa (kq e f ?_);rw[i0n (by rw[hsz];simp)];refine aa (aD ?_);refine aa (qf e f ?_);rw[i0n (by simp)];refine aD ?_;have h:es.size<=i:=by rwa[hsz]
 simp only[show ¬((i:Int)<0) from by lia,if_false,bA,A1 h];refine aa ?_;first|refine aa (lC c.typeIs (aD ?_))|refine aa (pN c.typeIs (aD ?_))
 show bf _ _ (setField (.ref j) 0 .none >>= _) _ _ s;refine aa (rM p q (by simp) ?_);show bf _ _ (newExc (.type "StopIteration") [] >>= _) _ _ _;refine aa ?_;simp only[newExc,newTuple];refine aa (ff ?_ (by size_fits));refine aa (m:=rN _ _) (wpAny_of_eq (a:=eG) (by first|rfl|(simp only[rN];rfl)) ?_);refine ff ?_ (by size_fits);simp only[raiseNew];refine aa (wpAny_handled ?_);rw[show A.in1.handled=ZZ from r];refine aa (aD (wpAny_throw ?_));refine aa (tI (T:="StopIteration") (b:=ZY) ⟨_,b8 _ rfl,rfl⟩ isSubtype_stop ?_);exact aD (t _ (((fg ..).extBut.push _).push _))
end
def Ya(d:ak)(o:Obj)(a:List (K2×V)):It:=⟨λi H=>H d=Z_ (.frz o (.dT a))/\i<a.length,λi H x b=>b=H/\∃k,a[i]?=Z_ (k,x),λi H=>H d=Z_ (.frz o (.dT a))/\a.length<=i⟩
def V_{X pins σ H s d}{o:Obj}{a es}{ep:Nat}{i:Nat}{k v}(I:cq X pins σ H s)(h:H d=Z_ (.frz o (.dT a)))
  (b:o.data=.dict es ep)(f:a[i]?=Z_ (k,v)):∃c,es[i]?=Z_ c/\ee v c.val:=by
 obtain⟨g,_,_,xs,r,o',es',ep',h1,h2,e,j,h5⟩:=I.hok d _ h;rw[g]at h1;cases h1;rw[b]at e;cases e;obtain⟨q,l,r1,r2,m⟩:=HC r f;have z:es.toList[i]?=Z_ (entryOfKey (fi X.prog X.w) q):=by rw[j,aR,l];rfl
 refine⟨_,by rwa[<-lz],?_⟩;exact m
section
variable {P:bF} {w:cD} {K:ab} {tg:ck} {d:ak} {o:Obj} {es:Array fq} {ep:Nat}
def P2{f:List (K2×V)}(g:ak)(n:o.data=.dict es ep):Gb P w K tg (Ya d o f) [g] g (λi h=>h.IsValIter g d i f.length ep) where
 mem:=by simp
 obj:=λi h st b j=>by
  have e:b=g:=by simpa using j
  subst e;obtain⟨u,e,c,C⟩:=st;exact⟨u,e,λv z=>by rw[C]at z;cases z⟩
 keep:=λi h x st k=>st.at λu e=>k g (by simp) u e
 item:=by
  intro X D hw F Y i pins s σ H E I y st G;subst D hw F;obtain⟨B,J⟩:=G;obtain⟨L,M,f2,N,O,R⟩:=y g (by simp);obtain⟨hs,l,hx,S,T,a,m,U⟩:=I.a4m B;obtain⟨rfl,rfl⟩:=GX n a;obtain⟨⟨k,v⟩,q⟩:∃p,f[i]?=Z_ p:=⟨f[i],aj J⟩
  obtain⟨en,W,r⟩:=V_ I B a q;refine JG st l a m W λx t sb=>?_;have I1:cq X pins σ H {s with heap:=x}:=I.turned (t':=s.toks) (λb Z j e=>(sb.2 b j).trans e) L M N O R;obtain⟨u,e,c,C⟩:=id t;exact⟨en.val,rfl,Kh (s:={s with heap:=x}) e c C (by decide) ⟨v,H,I1,r,⟨rfl,k,q⟩,t,λb j=>(y b j).1⟩⟩
 done:=by intro X D hw F Y i pins s σ H E I y st G;subst D hw F;obtain⟨B,J⟩:=G;obtain⟨L,M,f2,N,O,R⟩:=y g (by simp);obtain⟨hs,l,hx,S,T,a,m,U⟩:=I.a4m B;obtain⟨rfl,rfl⟩:=GX n a;exact LX (I.ok.hd Y) st l a m J λx eb=>⟨rfl,I.turned (t':=s.toks) (λb Z j e=>eb b Z j e) L M N O R⟩
 self:=λA i s Q E st h=>wpAny_pyIter_valiter st h
end
def Yb(c:TE):TI:=λσ H R=>c σ H λx b=>∃d o a,x=.ref d/\b d=Z_ (.frz o (.dT a))/\(a.length<=bc->R (Ya d o a) b)
def P3{X:Cx}{tg e p}{apos a:Pos}(he:PE X e p)(f:1<|g6 e "values" X.env (dh e X.env)=dh e X.env)(g:1<|(apos.endLine==a.line)=ZY):PI X tg (.Call (.Attribute e "values" apos) [] [] a) (Yb p):=by
 intro pins s σ H R I h;refine wpAny_Call_method (T:="dict") (id:="dict.values") f rfl g F.plainAttrs_dict F.slot_dict_values F.type_dict_values (jk (he pins s σ H _ I h) λu c Z=>Z23 Z λx y k z Z=>Z33 Z λd o kvs B r q=>?_);subst B;obtain rfl:u=bp d:=z;obtain⟨C,i,t,es,ep,j,l,ent⟩:=k.a4m r;have m:c.TypeIs (.ref d) "dict":=⟨o,i,t.1⟩
 refine⟨m,λb e=>by cases e;exact⟨o,i,t.2.1⟩,?_⟩;have D:cq X pins σ y {c with heap:=c.heap.push {cls:=.type "dict_values",data:=.fields #[.ref d]}}:=k.kept (t':=c.toks) λb ob q=>aE _ q;have n:bf (bI X.prog X.w) X.A (pyIter (.ref c.heap.objs.size)) (a0s X pins σ tg R) X.xe {c with heap:=c.heap.push {cls:=.type "dict_values",data:=.fields #[.ref d]}}:=by refine RQ (d:=d) (v:=c.heap.objs.size) ⟨_,b8 _ rfl,rfl,rfl⟩ (aE _ i) j (HB (tk:=c.toks) D _ (P2 _ j) ⟨_,b8 _ rfl,rfl,?_⟩ (q (k.hok d _ r).2.1));rw[l]<;>rfl
 show bf _ _ (callWith a (.builtin "dict.values") [.ref d] [] []) _ X.xe c;exact method_meetsIn F.slot_dict_values F.entry_dict_values rfl (PySem.evalArgs_none ⟨rfl,m,F.args_dict_values_1 _,_,E2 d C,m,n⟩)
end L2
namespace L2
open PySem PySem.Spec PyProof.Rows
section
variable {X:Cx} {tg l e:ck} {tl:TE} {pos:Pos}
def a1k(K:ab)(tl:TE):TI:=λσ H R=>tl σ H λx c=>∃a,x=.ref a/\((∃d,ny K c a d/\(d.length<=bc->R (a0t K a) c))\/(∃d,oQ K c a d/\(d.length<=bc->R (a0Q K a) c))\/∃o b,c a=Z_ (.frz o (.dT b))/\(b.length<=bc->R (Y6 a o b) c))
def Yc(n:PE X l tl):PI X tg l (a1k X.K tl):=by
 intro pins s σ H R I h;refine jk (n pins s σ H _ I h) λv f Z=>Z23 Z λx H1 b r t=>?_;obtain⟨a,e,q⟩:=t;subst e;cases r;rcases q with⟨u,g,q⟩|⟨u,g,q⟩|⟨o,kvs,m,q⟩
 .obtain⟨c,w,p,i⟩:=b.list g;exact Aw p.isList (HB (tk:=f.toks) b _ (Rr a _) ⟨_,b8 _ rfl,rfl,rfl⟩ (q i))
 .obtain⟨c,w,p,i⟩:=b.tuple g;exact qC (show f.heap.IsTuple a c.toArray from p) (HB (tk:=f.toks) b _ (OS a _) ⟨_,b8 _ rfl,rfl,rfl⟩ (q i))
 .obtain⟨y,j,z,es,ep,d,k,ent⟩:=b.a4m m;refine Kq y j z d (HB (tk:=f.toks) b _ (P0 _ d) ⟨_,b8 _ rfl,rfl,?_⟩ (q (b.hok a _ m).2.1));rw[k]<;>rfl
def TK(K:ab):R2:=λx y H Q=>∃a b c,x=.ref a/\y=.ref b/\oQ K H a []/\oQ K H b c/\Q (.ref b) H
def TL:r0 X (pL .Add) (TK X.K):=by
 intro pins s σ H x y v u Q I p r h;obtain⟨a,b,ys,rfl,rfl,t,w,q⟩:=h;cases p;cases r;obtain⟨its,z,A,_⟩:=I.tuple t;obtain⟨c,r2,B,_⟩:=I.tuple w;cases z;obtain⟨⟨cls,C,data,D⟩,k,m,n,o⟩:=A;obtain⟨⟨cls2,i,data2,j⟩,d,f,E,g⟩:=B;simp only at m o f g;subst m o f g;exact concat_meets ⟨_,k,rfl⟩ ⟨_,d,rfl⟩ noFill_tuple_add seq_tuple_add yk xr (vW _ _)
   (tuple_addW0 a b [].toArray c.toArray n E C i D j (by simp)) ⟨k,d,⟨.ref b,H,I,rfl,q⟩⟩
def cq.a4K{pins σ H}{s:aA}{l}{xs:List V}(I:cq X pins σ H s)(b:Rd H l (.lst xs)):xs.length<=bc/\∃(a:List aq) (n:Nat),dC xs a/\xs.length=a.length/\s.heap.get? l=Z_ {cls:=.type "list",data:=.seq a.toArray n}:=by obtain⟨z,a,n,r,e⟩:=b.ok I.hok;exact⟨z,a,n,r,r.length,e⟩
def WV:R2:=λx y H Q=>∃l b a c,x=.ref l/\y=.ref b/\Rd H l (.lst a)/\Rd H b (.lst c)/\a.length+c.length<=bc/\∀p,H p=ZZ->Q (.ref p) (gw H p (.lst (a++c)))
def W0:r0 X (pL .Add) WV:=by
 intro pins s σ H x y v u Q I d f h;obtain⟨l,b,xs,zs,rfl,rfl,g,i,hz,q⟩:=h;cases d;cases f;obtain⟨z,c,n,r,hl,e⟩:=I.a4K g;obtain⟨z2,a,n2,j,hl2,k⟩:=I.a4K i;refine PySem.P.add_list e k ?_ (by rw[br,br];lia);have m:c.toArray++a.toArray=(c++a).toArray:=by simp
 rw[m];exact⟨.ref _,_,I.a5D (t':=s.toks) (r.append j) (by rw[aK];lia),rfl,q _ I.fresh⟩
def TM(K:ab):V->List V->Hp->VK->Prop:=λx d H Q=>∃l b c a,x=.ref l/\d=[.ref b]/\H l=Z_ (.lst c)/\(Rd H b (.lst a)\/Rd H b (.tup a))/\c.length+a.length<=bc/\Q .non (gw H l (.lst (c++a)))
def P4:a1a X "list.extend" (TM X.K):=by
 intro pins s σ H x vs v us Q I o p h;obtain⟨l,b,xs,zs,rfl,rfl,j,hB,hz,q⟩:=h;cases o;obtain⟨u,rfl,t⟩:=p.one;cases t;obtain⟨z,c,n,r,hl,e⟩:=I.a5n j;rcases hB with hB|hB
 .obtain⟨w,a,m,g,k,i⟩:=I.a4K hB;have f:c.toArray.size+a.toArray.size<=bc:=by rw[br,br];lia
  have d:¬(!c.toArray.isEmpty&&lU (c.toArray.size+a.toArray.size))=ZY:=by rw[Ng f,Bool.and_false];exact aB
  refine call_meets F.slot_list_extend ⟨_,e,rfl⟩ F.entry_list_extend (F.args_list_extend_2 _ _)
   (AutoSeq1.list_extend_list_list_0 l c.toArray n b a.toArray m d (by rw[br];lia) (by lia)) ⟨e,i,?_⟩
  refine⟨.non,_,I.a5f (its':=c++a) j e (by simp) (r.append g) ?_,rfl,q⟩;rw[aK];lia
 .obtain⟨w,a,g,y,i,A,m,B⟩:=hB.ok I.hok;have k:=g.length;have f:c.toArray.size+a.toArray.size<=bc:=by rw[br,br];lia
  have d:¬(!c.toArray.isEmpty&&lU (c.toArray.size+a.toArray.size))=ZY:=by rw[Ng f,Bool.and_false];exact aB
  refine dO F.slot_list_extend ⟨_,e,rfl⟩ F.entry_list_extend ?_ (F.args_list_extend_2 _ _);show bf _ _ (Builtin.List.listExtendWith (.ref l) (.ref b) .none) _ _ s;unfold Builtin.List.listExtendWith;refine aa (wpAny_typeOf (T:="tuple") ⟨y,i,A⟩ ?_);have h1:(Builtin.List.listSameRef (.ref l) (.ref b)||iu "tuple"==iu "list"||iu "tuple"==iu "tuple")=ZY:=by simp
  simp only[h1,if_true];refine aa ?_;unfold Builtin.List.listItems;refine aa (fA i B (aD ?_));refine aa ?_;refine aa (fA e rfl (aD ?_));rw[i0n d];show bf _ _ (Builtin.List.listUpdate (.ref l) (·++a.toArray) >>= λ_=>ret .none) _ _ s;refine aa (listUpdate_at e rfl ?_ (hsz2:=by rw[Array.size_append];lia));refine aD ⟨.none,rfl,?_⟩;refine⟨.non,_,I.a5f (t':=s.toks) (its':=c++a) j e (by simp) (r.append g) ?_,rfl,q⟩;rw[aK];lia
def Yd(b:X.A.units+64<gv):r0 X (fo .In) (λy x H Q=>∃a o,x=.ref a/\E1 H a y o/\Q (.bl o.isSome) H):=by intro pins s σ H y x u v Q I c d h;obtain⟨a,o,rfl,g,q⟩:=h;obtain rfl:v=bp a:=d;exact a1f b I g c λs3 f=>⟨.bl o.isSome,H,f,rfl,q⟩
def RR(b:X.A.units+64<gv):r0 X (fo .NotIn) (λy x H Q=>∃a o,x=.ref a/\E1 H a y o/\Q (.bl (!o.isSome)) H):=by intro pins s σ H y x u v Q I c d h;obtain⟨a,o,rfl,g,q⟩:=h;obtain rfl:v=bp a:=d;exact VX b I g c λs3 f=>⟨.bl (!o.isSome),H,f,rfl,q⟩
def Ye(P:bF)(w:cD)(K:ab)(d:Str->Option aq)(base:cQ)(k:Nat)(g:TE)(t:TA):TE:=λσ H Q=>g σ H λx h=>∃(f:ak) (a:jx) (b:List Str) (c:Sp),x=.ref f/\oU P w K d base Kr k f a b c /\
 eJ K (.ref f)=ZY/\oY K a b []/\t σ h λi j=>c i j Q E0
def TN{b e a d t}{k:Nat}(i:jw k X.A)(hf:PE X b d)(j:PA X (e::a) t)
  (hs:1<|dh (.Call b (e::a) [] pos) X.env=(do let f <-dh b X.env;callWith pos f [] (gU pos (aU (e::a) X.env)) (backToKw pos (Au [] X.env))))
  (he:1<|aU (e::a) X.env=(ZX,dh e X.env)::aU a X.env)(c:1<|(gU pos (aU a X.env)).any (·.1)=ZX) :
  PE X (.Call b (e::a) [] pos) (Ye X.prog X.w X.K X.mg X.base k d t):=by
 intro pins s σ H Q I h;refine Call_ (jk (hf pins s σ H _ I h) λv m z=>?_) hs;obtain⟨x,n,o,p,z⟩:=z;obtain⟨f,fd,ps,sp,u,F,y,B,q⟩:=z;subst u;obtain rfl:v=bp f:=p;refine DJ (h₀:=X.base) I.ok.mod.kin y (jk (j pos pins m σ n _ o q) λus s2 Z=>Z23 Z λvs H2 g r C=>⟨g.kIn,?_⟩) he c;exact Tj F i B .nil Qv g r (by rwa[e9])
end
end L2
namespace L2
open PySem PySem.Spec PyProof.Rows
open AutoSeq1 (wpAny_loadPart')
section
variable {prog:bF} {w:cD} {d:ak} {o:Obj} {es:Array fq} {ep:Nat}
def RT{A:cB}(t:A.handled=ZZ)(c:ak)(l:d≠c)(a:o.data=.dict es ep):
  Walks prog w A c [c,d] [c] es.size (λi v=>∃p,es[i]?=Z_ p/\v=p.key) (λi h=>h.IsKeyIter c d i es.size ep/\h.get? d=Z_ o) where
 sub:=λb f=>by simp at f;simp[f]
 frame:=λ_ _ _ st q=>⟨st.1.at λo e=>q c (by simp) o e,q d (by simp) o st.2⟩
 item:=λi s Q E u st g=>by
  have r:es[i]?=Z_ es[i]:=by simp[u]
  refine B0 st.1 st.2 a rfl r λm j k=>?_;exact g es[i].key m s.toks ⟨_,r,rfl⟩ ⟨j,(k.2 d l).trans st.2⟩ λb o f e=>k.extBut b o (λh=>f (by simp[h])) e
 done:=λs Q E st g=>Cw t st.1 st.2 a rfl (aN _) λm n=>g m s.toks λb o f e=>n b o (λh=>f (by simp[h])) e
 self:=λ_ _ _ _ st g=>wpAny_pyIter_keyiter st.1 g
def W1(lo:(d==eX)=ZX)(b:o.ExactDict)(a:o.data=.dict es ep):PySem.W.KdlSrc prog w "dict" d d es.size (λi v=>∃e,es[i]?=Z_ e/\v=e.key) (λh=>h.get? d=Z_ o) where
 type:=λ_ hm=>⟨o,hm,b.1⟩
 there:=λ_ hm=>⟨b7 hm,b7 hm⟩
 keep:=λ_ _ hm f=>f d (.inl rfl) o hm
 notList:=by decide
 notTuple:=by decide
 hint:=λ_ _ _ _ hm c=>PySem.W.kdl_hint_dict ⟨o,hm,b.1⟩ c
 iter:=λ_ _ g hm=>⟨_,_,(λ_ _ c=>Kq lo hm b a c),RT g _ (b_ (b7 hm)) a,⟨⟨_,b8 _ rfl,rfl,rfl⟩,aE _ hm⟩⟩
def HG(lo:(d==eX)=ZX)(m:o.ExactDict)(j:o.data=.dict es ep)(hsz:es.size<=bc):
  MeetsIn prog w (Builtin.«tuple.__new__» ⟨[.type "tuple",.ref d],[]⟩)
   (λA R s=>A.handled=ZZ/\s.heap.get? d=Z_ o/\∀(h':cQ) (tk:Nat),(∀b n,s.heap.get? b=Z_ n->h'.get? b=Z_ n)->R (.ok (.ret (.ref h'.objs.size))) {s with heap:=h'.push {cls:=.type "tuple",data:=.seq (es.map (·.key))},toks:=tk}):=
 .of_wp λA R s h=>by
  obtain⟨p,g,r,tk,os⟩:=s;obtain⟨u,k,h⟩:=h;have hsub:=sub_tuple_self;have hinit:=init_tuple_lookup;have hmh:=madeHere_tuple;have x:Shared.TypeIs ⟨p,g,r,tk,os⟩ (.ref d) "dict":=⟨o,k,m.1⟩
  wp_walk using m9 k,wpAny_typeOf x,PySem.W.kdu_collect (A:=A.in1) (s:=⟨p,g,r,tk,os⟩) (W1 lo m j) (show A.in1.handled=ZZ from u) k hsz
  intro h' l a y c;have e:a.toList.toArray=es.map (·.key):=by
   refine Array.ext' ?_;refine qb λi=>?_;simp only[Jx,aR];by_cases t:i<es.size
   .have f:i<a.size:=by rwa[c.1]
    have q:=c.2 i a[i] (by simp[f]);obtain⟨z,B,C⟩:=q;have D:es.toList[i]?=Z_ z:=by rwa[lz]
    rw[D];simp[f,C]
   .have f:¬i<a.size:=by rwa[c.1]
    rw[cv (by simp;lia),cv (by simp;lia)];rfl
  show bf _ _ (Builtin.Tuple.tupleExact a.toList.toArray >>= λv=>ret v) _ _ _;rw[e];unfold Builtin.Tuple.tupleExact;refine aa (ff ?_ (by show (es.map (·.key)).size<=bc;simpa using hsz));exact aD ⟨_,rfl,h h' l y⟩
def Gc{A:cB}{E}{s:aA}{Q}(lo:(d==eX)=ZX)(f:o.ExactDict)(a:o.data=.dict es ep)(hsz:es.size<=bc)(g:A.handled=ZZ)(i:s.heap.get? d=Z_ o)
  (h:∀(h':cQ) (tk:Nat),(∀b e,s.heap.get? b=Z_ e->h'.get? b=Z_ e)->Q (.ref h'.objs.size) {s with heap:=h'.push {cls:=.type "tuple",data:=.seq (es.map (·.key))},toks:=tk}) :
  bf (bI prog w) A (Kb (.type "tuple") [.ref d]) Q E s:=
 callType_newIn F.called_tuple (by decide) (F.typeCall_tuple_1 _) (F.newCall_tuple_1 _) (λc=>F.args_object_init_2 c _) F.entry_tuple_new
  (HG lo f a hsz) ⟨g,i,λh' tk j=>⟨⟨_,b8 _ rfl,rfl⟩,h h' tk j⟩⟩
end
end L2
namespace L2
open PySem PySem.Spec PyProof.Rows
section
variable {X:Cx}
def Nv(T:X.calm=ZY):kr X (.type "tuple") (λxs H Q=>∃d o g,xs=[.ref d]/\H d=Z_ (.frz o (.dT g))/\∀(f:List ak) (l:ak),cE (λ(z:K2×V) q=>oT H z.1 q) g f->H l=ZZ->Q (.ref l) (gw H l (.tup (f.map V.ref)))):=by
 intro pins s σ H xs us Q I r h;obtain⟨d,o,g,rfl,M,q⟩:=h;obtain⟨u,rfl,U⟩:=Ki r;cases U;obtain⟨W,B,Y,N,ep,C,n,D⟩:=I.a4m M;obtain⟨_,O,_⟩:=I.hok d _ M;refine Gc W Y C (by rwa[n]) (I.ok.hd T) B λx F Z=>?_;have mk:∀(l:List (K2×V)) (m:List fq),l.length=m.length->(∀(i:Nat) (k:K2) (v:V),l[i]?=Z_ (k,v)->∃(j:fq) (q:ak),m[i]?=Z_ j/\j.key=bp q/\oT H k q) ->
   ∃f:List ak,cE (λ(z:K2×V) q=>oT H z.1 q) l f/\m.map (·.key)=f.map bp:=by
  intro l;induction l with
  |nil=>
   intro m y _;cases m with
   |nil=>exact⟨[],.nil,rfl⟩
   |cons _ _=>simp at y
  |cons p l G=>
   intro m y t;cases m with
   |nil=>simp at y
   |cons e m=>
    obtain⟨j,q,h1,h2,h3⟩:=t 0 p.1 p.2 rfl;have e1:e=j:=by simpa using h1
    subst e1;obtain⟨f,a,b⟩:=G m (by simpa using y) λi k v J=>t (i+1) k v (by simpa using J);exact⟨q::f,.cons h3 a,by rw[aQ,aQ,b,h2]⟩
 obtain⟨f,L,P⟩:=mk g N.toList (by simp[n]) λi k v J=>by obtain⟨j,q',a,b,c⟩:=D i k v J;exact⟨j,q',by rwa[lz],b,c⟩
 have R:cq X pins σ H {s with heap:=x,toks:=F}:=I.kept Z;have S:N.map (·.key)=(f.map bp).toArray:=by refine Array.ext' ?_;rw[Jx,P]
 rw[S];have hlen:f.length=g.length:=(jC L).symm;have vv:dC (f.map V.ref) (f.map bp):=by
  clear L P S hlen;induction f with
  |nil=>exact .nil
  |cons a f G=>exact .cons rfl G
 have I2:cq X pins σ (gw H x.objs.size (.tup (f.map V.ref))) {s with heap:=x.push {cls:=.type "tuple",data:=.seq (f.map bp).toArray},toks:=F}:=R.laid (t':=F) (λb o e=>aE _ e) (aN _) (show iz X.prog X.w _ _ _ (.tup (f.map V.ref)) from⟨by rwa[ah,hlen],_,vv,IsTup.new _ _⟩)
 exact⟨.ref x.objs.size,_,I2,rfl,q f _ L (R.hok.fresh (aN _))⟩
end
section
variable {prog:bF} {w:cD} {K:Type} [DecidableEq K] {knd:HeapKind prog w K} {A:cB} {E:aq->aA->Prop} {s:aA}
def Gd{d a xs k dflt Q}(n:knd.room A)(b:knd.is s.heap k a)(hm:s.heap.DictOfH knd d xs)
  (t:∀p,GO xs k=Z_ p->Q p.2 {s with toks:=s.toks+knd.draws k})
  (u:GO xs k=ZZ->∀h',h'.DictOfH knd d (Ay xs k a dflt)->jB d s.heap h'->Q dflt {s with heap:=h',toks:=s.toks+knd.draws k})
  (hsz:xs.length<=bc):bf (bI prog w) A (dictSetDefault d (.ref a) dflt) Q E s:=by
 obtain⟨o,es,v,g,z,f,l,h,m⟩:=hm;unfold dictSetDefault;try with_reducible refine iw ?_
 refine aa (knd.pyHash n b ?_);refine aa (wpAny_dictFind_heap (s:={s with toks:=s.toks+knd.draws k}) n b g f l h m ?_ ?_)
 .intro c;have i:k∉xs.map (·.1):=not_mem_keys_of_get c;refine aa (yh (aa (wpAny_updateDictKeys (hz:=by have e:=size_of_entries l;lia) (s:={s with toks:=s.toks+knd.draws k}) g f (aD (u (AA c) _ ⟨_,_,v+1,lA _ g (Obj.isFreed_of_dict (Obj.data_mapDictKeys f _)),
   z.mapDictKeys _,Obj.data_mapDictKeys f _,?_,?_,?_⟩ (fg ..))))))
  .rw[storedH_new (AA c)];simp[l,entryOfKey]
  .rw[storedH_new (AA c)];intro x hx;rcases aX.mp hx with hx|hx
   .exact knd.keeps (h x hx) g f (fg ..)
   .simp only[bb]at hx;subst hx;exact knd.keeps b g f (fg ..)
  .rw[storedH_new (AA c)];rw[bU,eE];refine⟨m,by simp,?_⟩;intro x hx y q;simp only[aQ,Av,bb]at q;subst q;exact λe=>i (e▸hx)
 .intro j p r;refine aa (kq (s:={s with toks:=s.toks+knd.draws k}) g f ?_);rw[entry_at l j,r];exact aa (yh (aD (t p (atKey_of_get m r))))
def Cy(knd:HeapKind prog w K)(d a:ak)(lo:(d==eX)=ZX)(dflt:aq):
  MeetsIn prog w (Builtin.«dict.setdefault» ⟨[.ref d,.ref a,dflt],[]⟩) (λA R s=>knd.room A.in1/\∃k xs,knd.is s.heap k a/\s.heap.DictOfH knd d xs/\xs.length<=bc /\
   (∀p,GO xs k=Z_ p->R (.ok (.ret p.2)) {s with toks:=s.toks+knd.draws k}) /\
   (GO xs k=ZZ->∀h',h'.DictOfH knd d (Ay xs k a dflt)->jB d s.heap h'->R (.ok (.ret dflt)) {s with heap:=h',toks:=s.toks+knd.draws k})):=
 .of_wp λA R s ⟨f,k,xs,b,hm,g,h1,h⟩=>by unfold Builtin.«dict.setdefault»;refine aa ?_;unfold Builtin.Dict.keyAndDefault;refine aa (tu hm.typeIs ?_);show bf _ _ (pure (d,bp a,Z_ dflt)) _ _ s;refine aD ?_;show bf _ _ (if (d==eX)=ZY then _ else (dictSetDefault d (.ref a) dflt >>= _)) _ _ s;rw[i0n (by rw[lo];exact aB)];exact aa (Gd f b hm (λp i=>aD ⟨p.2,rfl,h1 p i⟩) (λj h' c e=>aD ⟨dflt,rfl,h j h' c e⟩) g)
end
section
variable {X:Cx}
def W2:V->List V->Hp->VK->Prop:=λx d H Q=>∃a y v c k b,x=.ref a/\d=[y,v]/\y=.ref b/\H a=Z_ (.dT c)/\oT H k b/\c.length<bc /\
 (∀o,vd c k=Z_ o->Q o H)/\(vd c k=ZZ->Q v (gw H a (.dT (uk c k v))))
def JH(D:X.A.units+64<gv):a1a X "dict.setdefault" W2:=by
 intro pins s σ H x vs v us Q I G J h;obtain⟨a,y,d,f,k,b,rfl,rfl,rfl,e,n,l,L,M⟩:=h;cases G;obtain⟨u1,N,rfl,O,r⟩:=J.two;cases O;obtain⟨z,lo,t,g,u⟩:=Tv I.hok e;have P:t.length<=bc:=by rwa[<-jC g]
 have R:(uk f k d).length<=bc:=by have:=tN f k d;lia
 refine DK F.slot_dict_setdefault u.typeIs F.entry_dict_setdefault (F.args_dict_setdefault_3 _ _ _) (Cy (fi X.prog X.w) a b lo N) ⟨iy D,k,t,um I.hok n,u,P,λp S=>?_,λT h' m U=>?_⟩
 .have i:=g.val k;rw[S]at i;cases j:vd f k with
  |none=>rw[j]at i;exact i.elim
  |some o=>rw[j]at i;exact⟨o,H,I.tok _,i,L o j⟩
 .have i:=g.val k;rw[T]at i;have j:vd f k=ZZ:=by
   cases j:vd f k with
   |none=>rfl
   |some o=>rw[j]at i;exact i.elim
  obtain⟨q,V,W,B,Y,Z,h4,_,h5⟩:=m;refine⟨d,_,GU I (ob:=.dT (uk f k d)) (by rw[e];exact rk) U ⟨q,B⟩ ⟨R,lo,_,(g.put k n r).keeps λc ys C=>?_,q,V,W,B,Y,Z,h4,h5⟩,r,M j⟩;rwa[dy (T5 C e (λz=>nomatch z))]
end
end L2
namespace L2
open PySem PySem.Spec PyProof.Rows
def Yf(tk c:TE):TE:=λσ H Q=>∀p,H p=ZZ->tk σ (gw H p (.dT [])) λx d=>c σ d λy a=>a p=Z_ (.dT [])/\∃k b,x=.ref b/\oT a k b/\Q (.ref p) (gw a p (.dT [(k,y)]))
def TQ{X:Cx}{d k v tk i}(hu:X.A.units+64<gv)(r:PE X k tk)(t:PE X v i):PE X (.Dict [Z_ k] [v] d) (Yf tk i):=by intro pins s σ H Q I q;have B:=I.hok.fresh (aN s.heap.objs.size);have C:=I.laid (a:=s.heap.objs.size) (o:=.dT []) (h':=s.heap.push {cls:=.type "dict",data:=.dict #[]}) (t':=s.toks) (λ_ _ q=>aE _ q) (aN _) (Np s.heap I.big);rw[arm_eval_Dict,zip_pairTrees [Z_ k] [v] X.env d rfl rfl,dictDisplay_pairs (pairTrees [Z_ k] [v] X.env d) (by intro z;cases z) (by show 1<17;decide)];refine aa (JA (aa ?_));unfold subDict;refine aa (wpAny_alloc ?_);refine aa (iw ?_);rw[i0p (by show 1<=15;decide)];refine aa (pairTrees_cons_walk (jk (r pins _ σ _ _ C (q _ B)) λu D Z=>Z23 Z λx F G J K=>jk (t pins D σ F _ G K) λL s2 Z=>Z23 Z λy H2 f M N=>pairTrees_nil_walk ?_));obtain⟨e,j,b,O,l,P⟩:=N;subst O;obtain rfl:u=bp b:=J;obtain⟨z,lo,xs,g,R⟩:=Tv f.hok e;cases g;refine iw ?_;rw[AV];refine aa (aa (aa (wpAny_dictSet_heap (hsz:=gj _) ((show (fi X.prog X.w).room X.A from by show X.A.units+4<gv;lia)) (um f.hok l) R λh' h S=>aD ?_)));dsimp only;rw[v5];refine aD (aD (aD (aD ?_)));obtain⟨m,T,U,n,V,W,Y,_,h5⟩:=h;refine⟨.ref s.heap.objs.size,_,GU f (ob:=.dT [(j,y)]) (by rw[e];exact rk) S ⟨m,n⟩ ⟨by show 1<=bc;decide,lo,[(j,b,L)],.cons ⟨rfl,?_,M⟩ .nil,m,T,U,n,V,W,Y,by simp⟩,rfl,P⟩;exact oT.keeps (λc ys p=>by rwa[dy (T5 p e (λz=>nomatch z))]) l
def TR(acc rest:List (K2×ak×aq)):List (K2×ak×aq):=rest.foldl (λacc q=>Ay acc q.1 q.2.1 q.2.2) acc
def Nw(xs:List (K2×ak×aq))(k:K2)(a:ak)(v:aq):(Ay xs k a v).length<=xs.length+1:=by
 unfold Ay;split
 .rw[ah];lia
 .rw[aK];simp
section
variable {prog:bF} {w:cD} {A:cB} {E:aq->aA->Prop}
def Ks{R S I l}{items:Array aq}{res}(hu:A.units+64<gv)(hh:A.handled=ZZ)(G:l≠I)(h:S≠I)(H:S≠l):
  ∀(rest:List (K2×ak×aq)) (i:Nat) (acc:List (K2×ak×aq)) (P:Int) (t:Tok) (s:aA),items.size=i+rest.length->acc.length+rest.length<=bc ->
   (∀(j:Nat) (q:K2×ak×aq),rest[j]?=Z_ q->∃(b:ak),items[i+j]?=Z_ (.ref b)/\b≠S/\b≠I/\IsTup s.heap b #[.ref q.2.1,q.2.2]/\∀h',(∀c o,c≠S->c≠I->s.heap.get? c=Z_ o->h'.get? c=Z_ o)->(fi prog w).is h' q.1 q.2.1) ->
   s.heap.IsListIter I l i->s.heap.IsList l items->s.heap.DictOfH (fi prog w) S acc ->
   (∀x∈acc,∀h',(∀c o,c≠S->c≠I->s.heap.get? c=Z_ o->h'.get? c=Z_ o)->(fi prog w).is h' x.1 x.2.1) ->
   (∀h' tk,h'.DictOfH (fi prog w) S (TR acc rest)->(∀b o,b≠S->b≠I->s.heap.get? b=Z_ o->h'.get? b=Z_ o)->R (.ok (.ret res)) {s with heap:=h',toks:=tk}) ->
   Hs (bI prog w) A (.builtin "dict.update.loop" ⟨[.ref S,.ref I,.int P t,res],[]⟩) R s
 |[],i,acc,P,t,s,m,J,W,v,Q,hm,U,X=>by refine codeAny_builtin Nq ?_;rw[Around.under_plainId yB _];show bf _ A.in1 (qy (.ref I) >>= _) _ _ s;refine aa (wpAny_pyNext_list_end (A:=A.in1) hh v Q (by first|exact A1 (AU m)|(simp at m;simp;lia)) λh' Y=>?_);show bf _ A.in1 (Builtin.Dict.addKeywords S [] >>= _) _ _ _;refine aa (aD (aD ?_));obtain⟨o,Z,ep,F,K,L,B,his,hn⟩:=hm;exact X h' s.toks ⟨o,Z,ep,Y _ _ h F,K,L,B,λx hx=>U x hx h' λc a _ C z=>Y c a C z,hn⟩ λb o _ hb e=>Y b o hb e
 |q::rest,i,acc,P,t,s,m,J,W,v,Q,hm,U,X=>by
  obtain⟨b,hb,hbS,hbI,M,hk⟩:=W 0 q rfl;rw[aZ]at m J;refine codeAny_builtin Nq ?_;rw[Around.under_plainId yB _];show bf _ A.in1 (qy (.ref I) >>= _) _ _ s;refine aa (wpAny_pyNext_list_item (x:=.ref b) v Q (by simpa using hb) λh1 N d=>?_);have ht1:IsTup h1 b #[.ref q.2.1,q.2.2]:=M.extBut d.extBut hbI;have hl1:h1.IsList l items:=Q.extBut d.extBut G;have hm1:h1.DictOfH (fi prog w) S acc:=by obtain⟨o,Z,ep,F,K,L,B,his,hn⟩:=hm;exact⟨o,Z,ep,d.extBut _ _ h F,K,L,B,λx hx=>U x hx h1 λc a _ C z=>d.extBut c a C z,hn⟩
  obtain⟨o,F,K,n,L⟩:=id ht1;show bf _ A.in1 (As [bp b] _ >>= _) _ _ _;refine aa (iw ?_);refine aa (wpAny_tryCatch ?_);unfold Builtin.Dict.pairItems;refine aa (wpAny_typeOf (T:="tuple") ⟨o,F,K⟩ ?_);rw[i0p (by first|decide|rfl|simp)];refine aa (fA F L (aD ?_));show bf _ A.in1 (As [.ref q.2.1,q.2.2] (dictSet S (.ref q.2.1) q.2.2)) _ _ _;refine iw (wpAny_dictSet_heap (knd:=fi prog w) (k:=q.1) (iy hu) (hk h1 λc a _ C z=>d.extBut c a C z) hm1 (λC hm2 p=>?_) (by lia));have V:∀c a,c≠S->c≠I->s.heap.get? c=Z_ a->C.get? c=Z_ a:=λc a f g e=>p.extBut c a f (d.extBut c a g e);refine aD ⟨plainId_quiet yB _,Ks (items:=items) hu hh G h H rest (i+1) (Ay acc q.1 q.2.1 q.2.2) (P+1) 0 _ (show items.size=i+1+rest.length by lia) ?_ (λj q' e=>?_) ?_ ?_ hm2 (λx hx h' k=>?_) λh' tk hd' k=>?_⟩
  .have z:=Nw acc q.1 q.2.1 q.2.2;lia
  .obtain⟨b',hb',r,u,D,hk'⟩:=W (j+1) q' (by simpa using e);refine⟨b',?_,r,u,(D.extBut d.extBut u).extBut p.extBut r,λh' k=>hk' h' λc a f g z=>k c a f g (V c a f g z)⟩;rwa[show i+1+j=i+(j+1) by lia]
  .exact N.at λo' e=>p.extBut I o' (aG h) e
  .exact hl1.extBut p.extBut (aG H)
  .have O:∀y∈acc,(fi prog w).is h' y.1 y.2.1:=λy hy=>U y hy h' λc a f g z=>k c a f g (V c a f g z);unfold Ay at hx;split at hx
   .obtain⟨y,hy,rfl⟩:=aF.mp hx;unfold putAt;split<;>exact O y hy
   .rcases aX.mp hx with hx|hx
    .exact O x hx
    .simp only[bb]at hx;subst hx;exact hk h' λc a f g z=>k c a f g (V c a f g z)
  .exact X h' tk hd' λc a f g e=>k c a f g (V c a f g e)
def E4{s:aA}{l}{p:Obj}{items:Array aq}{n:Nat}{d:List (K2×ak×aq)}{Q}(hu:A.units+128<gv)(O:A.handled=ZZ)(G:s.heap.get? l=Z_ p)(u:p.cls=.type "list")(H:p.dict=ZZ)
  (i:p.data=.seq items n)(hsz:items.size=d.length)(J:d.length<=bc)
  (V:∀(j:Nat) (q:K2×ak×aq),d[j]?=Z_ q->∃(b:ak),items[j]?=Z_ (.ref b)/\IsTup s.heap b #[.ref q.2.1,q.2.2]/\∀h',(∀c o,s.heap.get? c=Z_ o->h'.get? c=Z_ o)->(fi prog w).is h' q.1 q.2.1)
  (h:∀h' tk,h'.DictOfH (fi prog w) s.heap.objs.size (TR [] d)->(∀b o,s.heap.get? b=Z_ o->h'.get? b=Z_ o)->Q (.ref s.heap.objs.size) {s with heap:=h',toks:=tk}) :
  bf (bI prog w) A (Kb (.type "dict") [.ref l]) Q E s:=by
 refine callType_codes (Q₁:=λv s₁=>v=.ref s.heap.objs.size/\s₁={s with heap:=s.heap.push {cls:=.type "dict",data:=.dict #[]}}) PySem.F.kt_called_dict (PySem.F.kt_typeCall_dict_1 _) PySem.F.entry_dict_init (kt_code_dict_new _ ⟨rfl,rfl⟩) ?_;rintro v s₁ ⟨rfl,rfl⟩;have f:(s.heap.push {cls:=.type "dict",data:=.dict #[]}).DictOfH (fi prog w) s.heap.objs.size []:=Heap.DictOfH.new s.heap;have t:∀b o,s.heap.get? b=Z_ o->(s.heap.push {cls:=.type "dict",data:=.dict #[]}).get? b=Z_ o:=λb o e=>aE _ e;refine⟨f.typeIs,PySem.F.args_dict_init_2 _ _,?_⟩;unfold Builtin.«dict.__init__»;refine aa ?_;unfold Builtin.Dict.selfAndRest;refine aa (tu f.typeIs ?_);show bf _ _ (pure (s.heap.objs.size,[bp l])) _ _ _;refine aD ?_;show bf _ _ (Builtin.Dict.updateFrom "dict.__init__" s.heap.objs.size (.ref l) [] .none) _ _ _;unfold Builtin.Dict.updateFrom;refine aa (wpAny_typeOf (T:="list") ⟨p,t _ _ G,u⟩ ?_);rw[i0p (by first|decide|rfl|simp)];refine aa (RH (t _ _ G) u i H O λh1 K a=>?_);rw[i0p (show (ZZ:Option aq).isNone=ZY from rfl)];refine aa (yh ?_);have y:h1.IsList l items:=⟨p,a _ _ (t _ _ G),u,n,i⟩
 have g:s.heap.objs.size<h1.objs.size:=by have e:(s.heap.push {cls:=.type "dict",data:=.dict #[]}).get? s.heap.objs.size=Z_ {cls:=.type "dict",data:=.dict #[]}:=b8 _ rfl;exact b7 (a _ _ e)
 refine aa (Aw y ?_);have B:∀b o,h1.get? b=Z_ o->(h1.push {cls:=.type "list_iterator",data:=.fields #[.ref l,.int 0 0]}).get? b=Z_ o:=λb o e=>aE _ e;have C:l<s.heap.objs.size:=b7 G;have m:(h1.push {cls:=.type "list_iterator",data:=.fields #[.ref l,.int 0 0]}).DictOfH (fi prog w) s.heap.objs.size []:=by obtain⟨o,W,X,Y,u,H,L,his,Z⟩:=f;exact⟨o,W,X,B _ _ (a _ _ Y),u,H,L,(λx M=>nomatch M),Z⟩
 have D:=Ks (prog:=prog) (w:=w) (A:=A.in1) (R:=wants (λr s₂=>r=.none/\Q (.ref s.heap.objs.size) s₂) E) (S:=s.heap.objs.size) (I:=h1.objs.size) (l:=l) (items:=items) (res:=eG) (by show A.units+1+64<gv;lia) O
  (b_ (AW C g)) (b_ g) (m_ C) d 0 [] 0 0
  {s with heap:=h1.push {cls:=.type "list_iterator",data:=.fields #[.ref l,.int 0 0]},toks:=K} (by rw[hsz,n9]) (by rwa[List.length_nil,n9])
  (λj q e=>by
   obtain⟨b,e1,P,e3⟩:=V j q e;have U:b<s.heap.objs.size:=P.lt;exact⟨b,by rwa[n9],b_ U,b_ (AW U g),P.keeps λc o z=>B _ _ (a _ _ (t _ _ z)),λh' k=>e3 h' λc o z=>k c o (b_ (b7 z)) (b_ (AW (b7 z) g)) (B _ _ (a _ _ (t _ _ z)))⟩)
  ⟨_,b8 _ rfl,rfl,rfl⟩ (y.at λo e=>B _ _ e) m (λx M=>nomatch M)
  (λh' tk N k=>⟨rfl,h h' tk N λb o e=>k b o (b_ (b7 e)) (b_ (AW (b7 e) g)) (B _ _ (a _ _ (t _ _ e)))⟩)
 first
  |exact aD ⟨plainId_quiet yB _,D⟩
  |exact aa (aD (aD ⟨plainId_quiet yB _,D⟩))
end
end L2
namespace L2
open PySem PySem.Spec PyProof.Rows
section
variable {X:Cx}
def we(a more:List (K2×V)):List (K2×V):=more.foldl (λb c=>uk b c.1 c.2) a
def HH:∀(more a:List (K2×V)),(we a more).length<=a.length+more.length
 |[],a=>aN _
 |p::r,a=>by have e1:=HH r (uk a p.1 p.2);have e2:=tN a p.1 p.2;show (we (uk a p.1 p.2) r).length<=_;rw[aZ];lia
def KT.fold{H}:∀{more:List (K2×V)} {b:List (K2×ak×aq)} {a:List (K2×V)} {xs:List (K2×ak×aq)},KT H more b->KT H a xs->KT H (we a more) (TR xs b):=by
 intro more b a xs h;induction h generalizing a xs with
 |nil=>exact id
 |@cons p r _ _ h t c=>
  intro q;have e:=q.put p.1 h.2.1 h.2.2;have d:KT H (uk a p.1 p.2) (Ay xs r.1 r.2.1 r.2.2):=by rwa[<-h.1]
  exact c d
def P5(N:X.calm=ZY)(O:X.A.units+128<gv):kr X (.type "dict") (λxs H Q=>∃(a:ak) (ps:List ak) (d:List (K2×V)),xs=[.ref a]/\Rd H a (.lst (ps.map V.ref))/\cE (λp (g:K2×V)=>∃b,H p=Z_ (.tup [.ref b,g.2])/\oT H g.1 b) ps d /\
  ∀p,H p=ZZ->Q (.ref p) (gw H p (.dT (we [] d)))):=by
 intro pins s σ H xs us Q I r h;obtain⟨a,ps,d,rfl,P,m,q⟩:=h;obtain⟨u,rfl,R⟩:=Ki r;cases R;obtain⟨z,its,n,S,hl,e⟩:=I.a4K P;have i:=GW S;subst i;have mk:∀{ps:List ak} {d:List (K2×V)},cE (λp (g:K2×V)=>∃b,H p=Z_ (.tup [.ref b,g.2])/\oT H g.1 b) ps d ->
   ∃f:List (K2×ak×aq),KT H d f/\f.length=ps.length/\∀(j:Nat) (q:K2×ak×aq),f[j]?=Z_ q->∃b:ak,ps[j]?=Z_ b/\IsTup s.heap b #[.ref q.2.1,q.2.2]/\oT H q.1 q.2.1:=by
  intro ps d m;induction m with
  |nil=>exact⟨[],.nil,rfl,λj q e=>by simp at e⟩
  |@cons p g ps d h t T=>
   obtain⟨f,y,v,B⟩:=T;obtain⟨b,U,w⟩:=h;obtain⟨_,it2,C,W⟩:=I.hok p _ U;obtain⟨u1,K,rfl,Y,Z⟩:=Zv C;cases Y;refine⟨(g.1,b,K)::f,.cons ⟨rfl,w,Z⟩ y,by rw[aZ,aZ,v],λj q e=>?_⟩;cases j with
   |zero=>have e':(g.1,b,K)=q:=az e;subst e';exact⟨p,rfl,W,w⟩
   |succ j=>obtain⟨b',l,x,D⟩:=B j q (by simpa using e);exact⟨b',by simpa using l,x,D⟩
 obtain⟨f,y,v,B⟩:=mk m;have hlen:(ps.map bp).toArray.size=f.length:=by simp[v]
 have hz:ps.length<=bc:=by rw[ah]at z;exact z
 refine E4 O (I.ok.hd N) e rfl rfl rfl hlen (by rwa[v]) (λj E hj=>?_) λh' tk F w=>?_
 .obtain⟨b,l,x,D⟩:=B j E hj;refine⟨b,by simp[l],x,λh' k=>?_⟩;exact um (I.hok.kept k) D
 .obtain⟨E,es,ep,hq,h2,h3,h4,_,h5⟩:=F;have L:=I.hok.fresh (aN s.heap.objs.size);have G:=(KT.fold y .nil).keeps (H':=gw H s.heap.objs.size (.dT (we [] d))) λc ys M=>by rw[dy (gc M L)];exact M
  have J:(we [] d).length<=bc:=by have l:=HH d [];have x:d.length=ps.length:=(jC m).symm;simp at l;lia
  refine⟨.ref s.heap.objs.size,_,I.laid (o:=.dT (we [] d)) (t':=tk) w (aN _) ⟨J,beq_eq_false_iff_ne.mpr (aG (b_ I.big)),_,G,E,es,ep,hq,h2,h3,h4,h5⟩,rfl,q _ L⟩
end
end L2
namespace L2
open PySem PySem.Spec PyProof.Rows PyProof.Rows.G PySem.W
def LY:List Int->List Int->Bool
 |[],[]=>ZX
 |[],_::_=>ZY
 |_::_,[]=>ZX
 |x::r,y::t=>decide (x<y)||(!decide (y<x)&&LY r t)
def QB:∀a b:List Int,PyProof.Rows.lexLt itemOrd (a.map iE) (b.map iE)=LY a b
 |[],[]=>rfl
 |[],_::_=>rfl
 |_::_,[]=>rfl
 |x::r,y::t=>by rw[aQ,aQ,lex_cons,QB r t];rfl
section
variable {prog:bF} {w:cD} {A:cB} {E:aq->aA->Prop} {s:aA}
def P6{κ kd d}{o:Obj}{T}{n:Nat}{vs:List aq}{Q}(t:T="list"\/T="tuple")(g:s.heap.get? d=Z_ o)(i:o.cls=.type T)(j:o.data=.seq vs.toArray n)
  (u:KeysOf κ (pairsOf vs))(v:∀s₂:aA,KeepsTups s.heap s₂.heap->LtAt prog w s₂ κ kd)
  (k:2<=vs.length->∀(A:cB) (E:aq->aA->Prop) (s₂:aA) {Q:SortKind->aA->Prop},KeepsTups s.heap s₂.heap->Q kd s₂->bf (bI prog w) A (keyKind' vs.toArray) Q E s₂)(l:vs.length<=bc)
  (h:∀(a:SortSt) (h1 h':cQ) (e:Nat),(arrOf a).Perm (pairsOf vs)->SortedToK κ (arrOf a) (pairsOf vs).size->(∀b o,s.heap.get? b=Z_ o->h1.get? b=Z_ o)->(∀b o,h1.get? b=Z_ o->h'.get? b=Z_ o) ->
   h'.get? h1.objs.size=Z_ (seqObj "list" ((arrOf a).map (·.2)) e)->Q (.ref h1.objs.size) {s with heap:=h'}) :
  bf (bI prog w) A (Kb (.builtin "sorted") [.ref d]) Q E s:=by
 refine Calls.call_function_entry kind_sorted plain_sorted entry_sorted (args_sorted1 _) ?_;unfold Builtin.«sorted»;refine aa (m:=checkCount "sorted" 1 1 _) (aD ?_);refine aa (wpAny_collect_seq d t g i j (λh1 p=>?_) (by rwa[br]));have x:vs.toArray.toList=vs:=by simp
 rw[x];refine aa (wpAny_newList ?_);have c:(h1.push (seqObj "list" vs.toArray 0)).get? h1.objs.size=Z_ (seqObj "list" vs.toArray 0):=b8 _ rfl;have y:∀b o,s.heap.get? b=Z_ o->(h1.push (seqObj "list" vs.toArray 0)).get? b=Z_ o:=λb o e=>aE _ (p b o e);have z:KeepsTups s.heap (h1.push (seqObj "list" vs.toArray 0)):=λb o e _=>y b o e;have q:=z.trans (keeps_sort6 (vs:=vs) c);show bf _ _ _ _ _ {s with heap:=h1.push (seqObj "list" vs.toArray 0)};refine aa (iw (dO slot_list_sort ⟨_,c,rfl⟩ entry_list_sort (list_sort_treeG (κ:=κ) (kd:=kd) c u ?ordG ?keyG l λa B C a3=>⟨_,rfl,?retG⟩) (args_list_sort _)))
 case ordG=>exact v _ q
 case keyG=>intro D R F;exact k D _ _ _ q F
 case retG=>obtain⟨e,G⟩:=sortedHeap_at (out:=(arrOf a).map (·.2)) c;refine aD ⟨_,rfl,h a h1 _ e B C p (λb o r=>?_) G⟩;have f:b<h1.objs.size:=b7 r;show (sortedHeap (h1.push (seqObj "list" vs.toArray 0)) h1.objs.size vs ((arrOf a).map (·.2))).get? b=Z_ o;rw[sortedHeap_old (b_ f) (by rw[size_push'];exact xZ f)];exact aE _ r
end
def JI{us}{c:List Int}:∀(i:Nat),dC (c.map V.int) us->tupItems (λ_=>ZX) i us=Z_ (c.map iE):=by
 induction c generalizing us with
 |nil=>intro i r;cases r;rfl
 |cons x c d=>
  intro i r;rw[aQ]at r;cases r with
  |cons a b=>
   obtain⟨t,rfl⟩:=(show ∃t,_=ue x t from a)
   show (tupItems (λ_=>ZX) (i+1) _).map (iE x::·)=_;rw[d (i+1) b];rfl
abbrev lX(H:Hp)(p:ak)(a:List Int):Prop:=H p=Z_ (.tup (a.map V.int))
def Ny:List V->Hp->VK->Prop:=λg H Q=>∃(a:ak) (f:List ak) (d:List (List Int)),g=[V.ref a]/\(Rd H a (.lst (f.map V.ref))\/Rd H a (.tup (f.map V.ref)))/\cE (lX H) f d/\((∀h∈d,h≠[])\/d.length<=1) /\
 ∀(e:List ak) (c:List (List Int)) (p:ak),cE (lX H) e c->c.Perm d->c.Pairwise (λa b=>LY b a=ZX)->H p=ZZ->Q (.ref p) (gw H p (.lst (e.map V.ref)))
def TU{X pins σ H}{s:aA}{p}{a:List Int}(I:cq X pins σ H s)(h:lX H p a):tupKeyC s.heap (λ_=>ZX) (.ref p)=Z_ (a.map iE):=by
 obtain⟨_,its,r,o,h1,b,n,c⟩:=I.hok p _ h;unfold tupKeyC;have d:isTupObj s.heap (.ref p)=ZY:=by simp[isTupObj,h1,b]
 rw[i0p d];simp only[tupKey,h1,c];exact JI 0 r
def Kt{X pins σ H}{s:aA}(I:cq X pins σ H s):∀{ps:List ak} {d:List (List Int)},cE (lX H) ps d->(∀c∈d,c≠[])->∃f,TupsOf s.heap (λ_=>ZX) (ps.map bp) f
 |_,_,.nil,_=>⟨[],.nil⟩
 |_,_,.cons (a:=p) (b:=c) h t,e=>by
  obtain⟨f,q⟩:=Kt I t λc i=>e c (ba _ i);obtain⟨_,its,r,o,h1,j,n,k⟩:=I.hok p _ h;cases c with
  |nil=>exact absurd rfl (e [] bG)
  |cons x c=>
   rw[aQ]at r;cases r with
   |@cons _ u _ us a b=>
    obtain⟨g,rfl⟩:=(show ∃t,u=ue x t from a)
    exact⟨.int x g::f,.cons ⟨p,o,_,n,rfl,h1,j,k,rfl,λ_=>⟨x,g,rfl⟩,λz=>absurd z (by simp)⟩ q⟩
def LZ{v:List aq}{p:aq×aq}(h:p∈v.zip v):p.1=p.2/\p.2∈v:=by
 induction v with
 |nil=>simp at h
 |cons a v b=>
  rw[List.zip_cons_cons]at h;rcases aL.mp h with rfl|h
  .exact⟨rfl,bG⟩
  .exact⟨(b h).1,ba _ (b h).2⟩
def WW:V->Int
 |.int i=>i
 |_=>0
def TV:Option HO->List Int
 |some (.tup a)=>a.map WW
 |_=>[]
section
variable {X:Cx}
def Nz{pins σ H}{s:aA}{ps:List ak}{g}(I:cq X pins σ H s)(z:cE (lX H) ps g){d:Array Keyed}(J:d.Perm (pairsOf (ps.map bp)))
  (M:SortedToK (tupKindC s.heap λ_=>ZX) d (pairsOf (ps.map bp)).size) :
  ∃(c:List ak) (k:List (List Int)),cE (lX H) c k/\k.Perm g/\k.Pairwise (λa b=>LY b a=ZX)/\(d.map (·.2)).toList=c.map bp:=by
 have K:d.toList.Perm ((ps.map bp).zip (ps.map bp)):=by rw[<-pairsOf_toList];exact J.toList
 have B:(d.toList.map (·.2)).Perm (ps.map bp):=by
  have e:=K.map (·.2)
  rwa [List.map_snd_zip (aN _)]at e
 have N:d.toList.map (·.1)=d.toList.map (·.2):=bO λq Z=>(LZ (K.mem_iff.mp Z)).1;obtain⟨c,m,x⟩:∃c:List ak,d.toList.map (·.2)=c.map bp/\c.Perm ps:=by
  have P:∀(l:List aq) (ps:List ak),l.Perm (ps.map bp)->∃c:List ak,l=c.map bp:=by
   intro l ps h;have C:∀v∈l,∃a,v=bp a:=λv Q=>by obtain⟨a,_,e⟩:=aF.mp (h.mem_iff.mp Q);exact⟨a,e.symm⟩
   clear h;induction l with
   |nil=>exact⟨[],rfl⟩
   |cons v l n=>obtain⟨a,rfl⟩:=C v bG;obtain⟨c,rfl⟩:=n λv Q=>C v (ba _ Q);exact⟨a::c,rfl⟩
  obtain⟨c,e⟩:=P _ _ B;refine⟨c,e,?_⟩;rw[e]at B;have back:∀l:List ak,(l.map bp).map (λv=>match v with|.ref a=>a|_=>0)=l:=λl=>by
   induction l with
   |nil=>rfl
   |cons a l n=>rw[aQ,aQ,n]
  have e3:=B.map (λv=>match v with|bp a=>a|_=>0)
  rwa [back,back]at e3
 let f:ak->List Int:=λp=>TV (H p)
 have Y:∀p u,lX H p u->f p=u:=λp u h=>by
  have e:(u.map V.int).map WW=u:=by
   clear h;induction u with
   |nil=>rfl
   |cons a l n=>rw[aQ,aQ,n];rfl
  show TV (H p)=u;rwa[show H p=Z_ (.tup (u.map V.int)) from h]
 have y:∀p∈ps,lX H p (f p):=by
  intro p hpm;clear K B N m x J M;induction z with
  |nil=>exact nomatch hpm
  |@cons q u ps g h t n=>
   rcases aL.mp hpm with rfl|hpm
   .rwa[Y _ _ h]
   .exact n hpm
 have D:g=ps.map f:=by
  clear K B N m x J M y;induction z with
  |nil=>rfl
  |@cons q u ps g h t n=>rw[aQ,Y _ _ h,<-n]
 have mk:∀l:List ak,(∀p∈l,lX H p (f p))->cE (lX H) l (l.map f):=by
  intro l;induction l with
  |nil=>intro _;exact .nil
  |cons a l n=>intro h;exact .cons (h a bG) (n λp z=>h p (ba _ z))
 have o:∀p∈c,lX H p (f p):=λp z=>y p (x.mem_iff.mp z);refine⟨c,c.map f,mk c o,by rw[D];exact x.map f,?_,by rwa[Jx]⟩;have R:(pairsOf (ps.map bp)).size=d.size:=J.size_eq.symm;have r:∀i p,c[i]?=Z_ p->KK (tupKindC s.heap λ_=>ZX) d i=(f p).map iE:=λi p F=>by
  have G:(d.toList.map (·.1))[i]?=Z_ (bp p):=by rw[N,m,aR,F];rfl
  rw[aR]at G;unfold KK;cases S:d[i]? with
  |none=>rw[<-lz]at S;rw[S]at G;cases G
  |some q=>
   have T:d.toList[i]?=Z_ q:=by rwa[lz]
   rw[T]at G;have L:q.1=bp p:=az G;show (tupKeyC s.heap (λ_=>ZX) q.1).getD []=_;rw[L,TU I (o p (aJ F))];rfl
 have hlen:c.length=d.size:=by have e:=congrArg xq m;simpa using e.symm
 rw[vZ];intro i j F U W;rw[ah]at F U;have e:=M i j (Jv W) (by rwa[R,<-hlen]);rw[r i c[i] (by simp[F]),r j c[j] (by simp[U])]at e;have L:PyProof.Rows.lexLt itemOrd ((f c[j]).map iE) ((f c[i]).map iE)=ZX:=e;rw[QB]at L;simpa using L
def P7:kr X (.builtin "sorted") Ny:=by
 intro pins s σ H vs us Q I r h;obtain⟨a,g,i,rfl,ha,m,hne,q⟩:=h;obtain⟨u,rfl,W⟩:=Ki r;cases W;obtain⟨T,Y,o,n,z,h1,Z,L⟩:∃T,(T="list"\/T="tuple")/\∃o n,g.length<=bc/\s.heap.get? a=Z_ o/\o.cls=.type T/\o.data=.seq (g.map bp).toArray n:=by
  rcases ha with ha|ha
  .obtain⟨z,y,n,B,hl,e⟩:=I.a4K ha;have f:=GW B;subst f;exact⟨"list",.inl rfl,_,n,by rw[ah]at z;exact z,e,rfl,rfl⟩
  .obtain⟨z,y,B,o,e,c,n,d⟩:=ha.ok I.hok;have f:=GW B;subst f;exact⟨"tuple",.inr rfl,o,n,by rw[ah]at z;exact z,e,c,d⟩
 have hk:∀v,v∈g.map bp->∃l,tupKeyC s.heap (λ_=>ZX) v=Z_ l:=λv M=>by
  obtain⟨p,hpm,rfl⟩:=aF.mp M;obtain⟨x,C⟩:∃x,lX H p x:=by
   clear hne q ha z L M;induction m with
   |nil=>exact nomatch hpm
   |@cons q x g i h t D=>
    rcases aL.mp hpm with rfl|hpm
    .exact⟨x,h⟩
    .exact D hpm
  exact⟨_,TU I C⟩
 have hlen:g.length=i.length:=jC m;refine P6 (κ:=tupKindC s.heap λ_=>ZX) (kd:=tuples' ZY) Y h1 Z L (tupKeys hk) (λs₂ k=>tupC_ltAt (s:=s₂) ZY k) (λF A E s₂ R k hq=>?_) (by rwa[ah]) λG hm h' e a1 a2 k1 k2 J=>?_
 .rcases hne with hne|hne
  .obtain⟨fs,N⟩:=Kt I m hne;exact tup_kind (s:=s₂) (by rw[TupsOf.length N];lia) (TupsOf.keep k N) hq
  .rw[ah]at F;lia
 .obtain⟨b,j,K,O,b3,P⟩:=Nz I m a1 a2;have S:cq X pins σ H {s with heap:=hm}:=I.kept (t':=s.toks) k1;have U:(arrOf G).map (·.2)=(b.map bp).toArray:=by
   refine Array.ext' ?_;rw[P]
  rw[U]at J;have vv:dC (b.map V.ref) (b.map bp):=by
   clear K P U J;induction b with
   |nil=>exact .nil
   |cons a ks D=>exact .cons rfl D
  have hz:(b.map V.ref).length<=bc:=by rwa[ah,jC K,O.length_eq,<-hlen]
  exact⟨.ref hm.objs.size,gw H hm.objs.size (.lst (b.map V.ref)),S.laid (t':=s.toks) k2 (aN _) ⟨hz,b.map bp,e,vv,J⟩,rfl,q b j _ K O b3 (S.hok.fresh (aN _))⟩
end
end L2
namespace L3
open PySem PySem.Spec PyProof.Rows L2
inductive D where
 |non|bl (b:Bool)|int (i:Int)|str (x:Str)|ref (a:ak)
 |tup (l:List D)|lst (l:List D)|dic (l:List (K2×D))|mtup (l:List D)
def WX:K1->D
 |.inl i=>.int i
 |.inr l=>.tup (l.map D.int)
def kD(k:K2):D:=.tup (k.map WX)
def MT(K:ab)(a:ak)(xs:List V):Prop:=∃(o:Obj) (b:Array aq) (n:Nat),K.lookup a=Z_ o/\o.cls=.type "tuple"/\o.data=.seq b n/\b.size<=bc/\dC xs b.toList
def MT.sq{K a xs}(h:MT K a xs)(H:Hp):oQ K H a xs:=.inr h
mutual
inductive k_ (K:ab) (H:Hp):D->V->Prop
 |non:k_ K H .non .non
 |bl (b:Bool):k_ K H (.bl b) (.bl b)
 |int (i:Int):k_ K H (.int i) (.int i)
 |str (x:Str):k_ K H (.str x) (.str x)
 |ref (a:ak):k_ K H (.ref a) (.ref a)
 |tup {a:ak} {xs:List V} {ds:List D}:H a=Z_ (.tup xs)->dA K H ds xs->k_ K H (.tup ds) (.ref a)
 |lst {a:ak} {o:Obj} {xs:List V} {ds:List D}:H a=Z_ (.frz o (.lst xs))->dA K H ds xs->k_ K H (.lst ds) (.ref a)
 |dic {a:ak} {o:Obj} {ks:List (K2×V)} {kvs:List (K2×D)}:H a=Z_ (.frz o (.dT ks))->fL K H kvs ks->k_ K H (.dic kvs) (.ref a)
 |mtup {a:ak} {xs:List V} {ds:List D}:MT K a xs->dA K H ds xs->k_ K H (.mtup ds) (.ref a)
inductive dA (K:ab) (H:Hp):List D->List V->Prop
 |nil:dA K H [] []
 |cons {d:D} {v:V} {ds:List D} {vs:List V}:k_ K H d v->dA K H ds vs->dA K H (d::ds) (v::vs)
inductive fL (K:ab) (H:Hp):List (K2×D)->List (K2×V)->Prop
 |nil:fL K H [] []
 |cons {p:K2×D} {q:K2×V} {r:List (K2×D)} {t:List (K2×V)}:p.1=q.1->k_ K H p.2 q.2->fL K H r t->fL K H (p::r) (q::t)
end
structure Le(H H':Hp):Prop where
 tup:∀b xs,H b=Z_ (.tup xs)->H' b=Z_ (.tup xs)
 frz:∀b o u,H b=Z_ (.frz o u)->H' b=Z_ (.frz o u)
def Le.refl(H:Hp):Le H H:=⟨λ_ _ h=>h,λ_ _ _ h=>h⟩
def Le.trans{H d e}(a:Le H d)(b:Le d e):Le H e:=⟨λc f h=>b.tup c f (a.tup c f h),λc o u h=>b.frz c o u (a.frz c o u h)⟩
section
variable {K:ab} {H H':Hp}
mutual
theorem k_.mono (le:Le H H'):∀{d:D} {v:V},k_ K H d v->k_ K H' d v
 |_,_,.non=>.non
 |_,_,.bl b=>.bl b
 |_,_,.int i=>.int i
 |_,_,.str x=>.str x
 |_,_,.ref a=>.ref a
 |_,_,.tup e r=>.tup (le.tup _ _ e) (dA.mono le r)
 |_,_,.lst e r=>.lst (le.frz _ _ _ e) (dA.mono le r)
 |_,_,.dic e r=>.dic (le.frz _ _ _ e) (fL.mono le r)
 |_,_,.mtup e r=>.mtup e (dA.mono le r)
theorem dA.mono (le:Le H H'):∀{ds:List D} {vs:List V},dA K H ds vs->dA K H' ds vs
 |_,_,.nil=>.nil
 |_,_,.cons a r=>.cons (k_.mono le a) (dA.mono le r)
theorem fL.mono (le:Le H H'):∀{ds:List (K2×D)} {vs:List (K2×V)},fL K H ds vs->fL K H' ds vs
 |_,_,.nil=>.nil
 |_,_,.cons e a r=>.cons e (k_.mono le a) (fL.mono le r)
end
end
inductive MO where
 |lst (l:List D)|dic (l:List (K2×D))|ins (C:ak) (fs:List (Str×D))
abbrev M:=ak->Option MO
def bQ(m:M)(a:ak)(o:MO):M:=λb=>if b=a then Z_ o else m b
def Cj(m' m:M):Prop:=∀b o,m' b=Z_ o->m b=Z_ o
def aS{m a o}:bQ m a o a=Z_ o:=by unfold bQ;rw[i0p rfl]
def ao{m a b o}(h:b≠a):bQ m a o b=m b:=by unfold bQ;rw[i0n h]
def cy{m a o u}:bQ (bQ m a o) a u=bQ m a u:=by funext b;unfold bQ;split<;>rfl
def Cj.refl(m:M):Cj m m:=λ_ _ h=>h
def Cj.new{m a o}(h:m a=ZZ):Cj m (bQ m a o):=λb u e=>by rw[ao];exact e;intro z;subst z;rw[h]at e;cases e
def Cj.free{m m' a}(s:Cj m m')(h:m' a=ZZ):m a=ZZ:=by
 cases q:m a with
 |none=>rfl
 |some o=>have:=s a o q;rw[h]at this;cases this
inductive ve(K:ab)(H:Hp):List (Str×D)->List (Str×V)->Prop
 |nil:ve K H [] []
 |cons {f:Str} {d:D} {v:V} {r:List (Str×D)} {t:List (Str×V)}:k_ K H d v->ve K H r t->ve K H ((f,d)::r) ((f,v)::t)
def HI:List Str:=["sizes", "begins", "spans", "doings", "goal", "views", "facts", "puzzle", "actual", "belief", "purse", "past", "sights", "trials", "room", "over", "beliefs", "ways", "numbers", "play"]
structure RU(K:ab)(C:ak):Prop where
 cls:XM K C
 no:∀f∈HI,wc K C f
def WY(K:ab)(H:Hp)(a:ak):MO->Prop
 |.lst f=>∃c,H a=Z_ (.lst c)/\dA K H f c
 |.dic b=>∃d,H a=Z_ (.dT d)/\fL K H b d
 |.ins C g=>∃h e,H a=Z_ (.ins C h e)/\ve K H g e/\RU K C
def RM(K:ab)(m:M)(H:Hp):Prop:=∀a o,m a=Z_ o->WY K H a o
def RO(K:ab)(H:Hp):Option D->Option V->Prop
 |some d,Z_ v=>k_ K H d v
 |some _,ZZ=>False
 |none,_=>True
def RS(K:ab)(H:Hp):List (Option D)->List (Option V)->Prop:=cE (RO K H)
section
variable {K:ab} {H H':Hp} {m m':M}
def ve.mono(le:Le H H'):∀{b:List (Str×D)} {c:List (Str×V)},ve K H b c->ve K H' b c
 |_,_,.nil=>.nil
 |_,_,.cons a r=>.cons (a.mono le) (ve.mono le r)
def WY.mono{a o}(le:Le H H')(e:H' a=H a)(h:WY K H a o):WY K H' a o:=by
 cases o with
 |lst d=>obtain⟨c,h1,b⟩:=h;exact⟨c,e.trans h1,b.mono le⟩
 |dic d=>obtain⟨c,h1,b⟩:=h;exact⟨c,e.trans h1,b.mono le⟩
 |ins C fs=>obtain⟨f,g,h1,b,i⟩:=h;exact⟨f,g,e.trans h1,b.mono le,i⟩
def Yg:HO->Prop
 |.lst _=>True
 |.dT _=>True
 |.ins _ _ _=>True
 |_=>False
def WY.at{a o}(h:WY K H a o):∃u,H a=Z_ u/\Yg u:=by
 cases o with
 |lst c=>obtain⟨d,h1,b⟩:=h;exact⟨_,h1,trivial⟩
 |dic c=>obtain⟨d,h1,b⟩:=h;exact⟨_,h1,trivial⟩
 |ins C fs=>obtain⟨dx,f2,h1,b,h3⟩:=h;exact⟨_,h1,trivial⟩
def RM.at{a o}(r:RM K m H)(h:m a=Z_ o):∃u,H a=Z_ u:=let ⟨u,e,_⟩:=(r a o h).at;⟨u,e⟩
def RM.free{a}(r:RM K m H)(h:H a=Option.none):m a=Option.none:=by
 cases q:m a with
 |none=>rfl
 |some o=>obtain⟨u,e⟩:=r.at q;rw[h]at e;cases e
def RM.sub(r:RM K m H)(s:Cj m' m):RM K m' H:=λa o e=>r a o (s a o e)
def RM.keep(r:RM K m H)(le:Le H H')(k:∀a o,m a=Z_ o->H' a=H a):RM K m H':=λa o e=>(r a o e).mono le (k a o e)
def rX{p o}(h:H p=ZZ):Le H (gw H p o):=⟨λb xs e=>by rwa[dy (gc e h)],λb ob u e=>by rwa[dy (gc e h)]⟩
def RM.new{p o}(r:RM K m H)(h:H p=ZZ):RM K m (gw H p o):=r.keep (rX h) λa u e=>by obtain⟨v,q⟩:=r.at e;exact dy (gc q h)
def rY{p o u}(h:H p=Z_ u)(hm:Yg u):Le H (gw H p o):=by
 refine⟨λb xs e=>?_,λb ob w e=>?_⟩
 .by_cases a:b=p
  .subst a;rw[h]at e;cases e;exact hm.elim
  .rwa[dy a]
 .by_cases a:b=p
  .subst a;rw[h]at e;cases e;exact hm.elim
  .rwa[dy a]
def RM.wr{p o u w}(r:RM K m H)(h:H p=Z_ u)(hm:Yg u)(b:WY K (gw H p o) p w):RM K (bQ m p w) (L2.gw H p o):=λa x e=>by
 by_cases c:a=p
 .subst c;rw[aS]at e;cases e;exact b
 .rw[ao c]at e;exact (r a x e).mono (rY h hm) (dy c)
def RM.lay{p o w}(r:RM K m H)(h:H p=Option.none)(b:WY K (L2.gw H p o) p w):RM K (bQ m p w) (L2.gw H p o):=λa x e=>by
 by_cases c:a=p
 .subst c;rw[aS]at e;cases e;exact b
 .rw[ao c]at e;exact r.new h a x e
def RO.mono{d v}(le:Le H H')(h:RO K H d v):RO K H' d v:=by
 cases d with
 |none=>exact trivial
 |some d=>cases v with
  |none=>exact h
  |some v=>exact k_.mono le h
def RS.mono{σ τ}(le:Le H H')(h:RS K H σ τ):RS K H' σ τ:=Paired.a4W h λ_ _=>RO.mono le
def RS.get{σ τ}(h:RS K H σ τ):∀{i:Nat} {d:D},σ[i]?=Z_ (Z_ d)->∃v,τ[i]?=Z_ (Z_ v)/\k_ K H d v:=by
 unfold RS at h;induction h with
 |nil=>intro i d e;simp at e
 |@cons a b l1 l2 q r c=>
  intro i d e;cases i with
  |zero=>
   have f:a=Z_ d:=by simpa using e
   subst f;cases b with
   |none=>exact q.elim
   |some v=>exact⟨v,rfl,q⟩
  |succ i=>exact c (by simpa using e)
def RS.set{σ:List (Option D)}{τ:List (Option V)}{d v}(h:RS K H σ τ)(r:k_ K H d v):∀i:Nat,RS K H (σ.set i (Z_ d)) (τ.set i (Z_ v)):=by
 unfold RS at h ⊢;induction h with
 |nil=>intro i;exact .nil
 |cons q t a=>
  intro i;cases i with
  |zero=>exact .cons r t
  |succ i=>exact .cons q (a i)
def dA.length:∀{ds:List D} {vs:List V},dA K H ds vs->ds.length=vs.length
 |_,_,.nil=>rfl
 |_,_,.cons _ r=>by rw[aZ,aZ,dA.length r]
def dA.get:∀{ds:List D} {vs:List V} {i:Nat} {d:D},dA K H ds vs->ds[i]?=Z_ d->∃v,vs[i]?=Z_ v/\k_ K H d v
 |_,_,_,_,.nil,e=>by simp at e
 |_,_,0,_,.cons a _,e=>by have b:=az e;subst b;exact⟨_,rfl,a⟩
 |_,_,i+1,d,.cons _ r,e=>by obtain⟨v,h1,c⟩:=dA.get (i:=i) (d:=d) r (by simpa using e);exact⟨v,by simpa using h1,c⟩
def dA.a2X:∀{ds:List D} {vs:List V} {i:Nat} {v:V},dA K H ds vs->vs[i]?=Z_ v->∃d,ds[i]?=Z_ d/\k_ K H d v
 |_,_,_,_,.nil,e=>by simp at e
 |_,_,0,_,.cons a _,e=>by have b:=az e;subst b;exact⟨_,rfl,a⟩
 |_,_,i+1,d,.cons _ r,e=>by obtain⟨v,h1,c⟩:=dA.a2X (i:=i) (v:=d) r (by simpa using e);exact⟨v,by simpa using h1,c⟩
def dA.append:∀{ds b:List D} {vs us:List V},dA K H ds vs->dA K H b us->dA K H (ds++b) (vs++us):=by
 intro ds b vs us h s;induction ds generalizing vs with
 |nil=>cases h;exact s
 |cons d ds c=>cases h with|cons a r=>exact .cons a (c r)
def dA.set{d v}(q:k_ K H d v):∀{ds:List D} {vs:List V} (i:Nat),dA K H ds vs->dA K H (ds.set i d) (vs.set i v)
 |_,_,_,.nil=>.nil
 |_,_,0,.cons _ r=>.cons q r
 |_,_,i+1,.cons a r=>.cons a (dA.set q i r)
def dA.take:∀{ds:List D} {vs:List V} (n:Nat),dA K H ds vs->dA K H (ds.take n) (vs.take n)
 |_,_,0,_=>.nil
 |_,_,_+1,.nil=>.nil
 |_,_,n+1,.cons a r=>.cons a (dA.take n r)
def dA.drop:∀{ds:List D} {vs:List V} (n:Nat),dA K H ds vs->dA K H (ds.drop n) (vs.drop n)
 |_,_,0,r=>r
 |_,_,_+1,.nil=>.nil
 |_,_,n+1,.cons a r=>dA.drop n r
def ve.look{f}:∀{b:List (Str×D)} {c:List (Str×V)} {d:D},ve K H b c->b.lookup f=Z_ d->∃v,c.lookup f=Z_ v/\k_ K H d v
 |_,_,_,.nil,e=>by simp at e
 |_,_,d,.cons (f:=g) (d:=d') (v:=i) a r,e=>by
  rw[cX]at e ⊢;cases h:f==g with
  |true=>rw[h]at e;exact⟨i,rfl,by cases e;exact a⟩
  |false=>rw[h]at e;exact ve.look r e
def ve.length:∀{a:List (Str×D)} {b:List (Str×V)},ve K H a b->a.length=b.length
 |_,_,.nil=>rfl
 |_,_,.cons _ r=>by rw[aZ,aZ,ve.length r]
end
def iA(f:Str)(v:D):List (Str×D)->List (Str×D)
 |[]=>[(f,v)]
 |(g,u)::r=>if g=f then (g,v)::r else (g,u)::iA f v r
abbrev Ck:=List (Option D)
abbrev qE:=D->M->Prop
abbrev jt:=Ck->M->qE->Prop
abbrev BB:=Ck->M->(Bool->M->Prop)->Prop
abbrev Cz:=Ck->M->(List D->M->Prop)->Prop
structure TX where
 nx:Ck->M->Prop
 rt:qE
 bk:Ck->M->Prop:=λ_ _=>False
 ct:Ck->M->Prop:=λ_ _=>False
abbrev gT:=TX->Ck->M->Prop
def L_(K:ab)(H:Hp)(Q3:qE)(Q:VK):Prop:=∀d v g f,k_ K f d v->RM K g f->Le H f->Q3 d g->Q v f
def ZN(K:ab)(H:Hp)(Q3:Bool->M->Prop)(Q:Bool->Hp->Prop):Prop:=∀b f d,RM K f d->Le H d->Q3 b f->Q b d
def KA3(K:ab)(H:Hp)(Q3:List D->M->Prop)(Q:List V->Hp->Prop):Prop:=∀f g h d,dA K d f g->RM K h d->Le H d->Q3 f h->Q g d
def Z2(K:ab)(H:Hp)(g:Ck->M->Prop)(N:L2.St->Hp->Prop):Prop:=∀σ3 σ f d,RS K d σ3 σ->RM K f d->Le H d->g σ3 f->N σ d
structure a0y(K:ab)(H:Hp)(E3:TX)(E:OR):Prop where
 nx:Z2 K H E3.nx E.nx
 rt:L_ K H E3.rt E.rt
 bk:Z2 K H E3.bk E.bk
 ct:Z2 K H E3.ct E.ct
def L_.le{K H H' Q3 Q}(le:Le H H')(k:L_ K H Q3 Q):L_ K H' Q3 Q:=λd v f g a b c e=>k d v f g a b (le.trans c) e
def ZN.le{K H H' Q3 Q}(le:Le H H')(k:ZN K H Q3 Q):ZN K H' Q3 Q:=λd f g b c e=>k d f g b (le.trans c) e
def Z2.le{K H H' Q3 Q}(le:Le H H')(k:Z2 K H Q3 Q):Z2 K H' Q3 Q:=λd v f g a b c e=>k d v f g a b (le.trans c) e
def a0y.le{K H H' d E}(le:Le H H')(k:a0y K H d E):a0y K H' d E:=⟨k.nx.le le,k.rt.le le,k.bk.le le,k.ct.le le⟩
def NA(K:ab)(t:jt):TE:=λσ H Q=>∃σ3 m d,RS K H σ3 σ/\RM K m H/\t σ3 m d/\L_ K H d Q
def CB(K:ab)(t:BB):TT:=λσ H Q=>∃σ3 m d,RS K H σ3 σ/\RM K m H/\t σ3 m d/\ZN K H d Q
def TY(K:ab)(t:Cz):TA:=λσ H Q=>∃σ3 m d,RS K H σ3 σ/\RM K m H/\t σ3 m d/\KA3 K H d Q
def WZ(K:ab)(t:gT):TS:=λE σ H=>∃σ3 m d,RS K H σ3 σ/\RM K m H/\t d σ3 m/\a0y K H d E
def fH(X:Cx)(e:ck)(t:jt):Prop:=PE X e (NA X.K t)
def OM(X:Cx)(e:ck)(t:BB):Prop:=PT X e (CB X.K t)
def Ku(X:Cx)(e:ck)(t:BB):Prop:=PW X e (CB X.K t)
def Ge(X:Cx)(es:List ck)(t:Cz):Prop:=PA X es (TY X.K t)
def ON(X:Cx)(s:cR)(t:gT):Prop:=PS X s (WZ X.K t)
def CC(X:Cx)(s:List cR)(t:gT):Prop:=N6 X s (WZ X.K t)
section
variable {X:Cx} {e:ck} {es:List ck} {st:cR} {sts:List cR}
def gJ{t t'}(h:PE X e t)(f:∀σ H Q,t' σ H Q->t σ H Q):PE X e t':=λpins s σ H Q I q=>h pins s σ H Q I (f σ H Q q)
def NB{t t'}(h:PT X e t)(f:∀σ H Q,t' σ H Q->t σ H Q):PT X e t':=λpins s σ H Q I q=>h pins s σ H Q I (f σ H Q q)
def W_{t t'}(h:PW X e t)(f:∀σ H Q,t' σ H Q->t σ H Q):PW X e t':=λd pins s σ H Q I q=>h d pins s σ H Q I (f σ H Q q)
def X0{t t'}(h:PA X es t)(f:∀σ H Q,t' σ H Q->t σ H Q):PA X es t':=λpos pins s σ H Q I q=>h pos pins s σ H Q I (f σ H Q q)
def yD{t t'}(h:PS X st t)(f:∀E σ H,t' E σ H->t E σ H):PS X st t':=λpins s σ H E I q=>h pins s σ H E I (f E σ H q)
def TZ{t t'}(h:N6 X sts t)(f:∀E σ H,t' E σ H->t E σ H):N6 X sts t':=λpins s σ H E I q=>h pins s σ H E I (f E σ H q)
def weakE3{t g}(h:PE X e t)(f:∀σ H Q σ3 m Q3,RS X.K H σ3 σ->RM X.K m H->g σ3 m Q3->L_ X.K H Q3 Q->t σ H Q):fH X e g:=gJ h λσ H Q Z=>Z34 Z λσ3 m Q3 a b c d=>f σ H Q σ3 m Q3 a b c d
def weakT3{t g}(h:PT X e t)(f:∀σ H Q σ3 m Q3,RS X.K H σ3 σ->RM X.K m H->g σ3 m Q3->ZN X.K H Q3 Q->t σ H Q):OM X e g:=NB h λσ H Q Z=>Z34 Z λσ3 m Q3 a b c d=>f σ H Q σ3 m Q3 a b c d
def weakW3{t g}(h:PW X e t)(f:∀σ H Q σ3 m Q3,RS X.K H σ3 σ->RM X.K m H->g σ3 m Q3->ZN X.K H Q3 Q->t σ H Q):Ku X e g:=W_ h λσ H Q ⟨σ3,m,Q3,a,b,c,d⟩=>f σ H Q σ3 m Q3 a b c d
def weakA3{t g}(h:PA X es t)(f:∀σ H Q σ3 m Q3,RS X.K H σ3 σ->RM X.K m H->g σ3 m Q3->KA3 X.K H Q3 Q->t σ H Q):Ge X es g:=X0 h λσ H Q ⟨σ3,m,Q3,a,b,c,d⟩=>f σ H Q σ3 m Q3 a b c d
def weakS3{t i}(h:PS X st t)(f:∀E σ H σ3 m g,RS X.K H σ3 σ->RM X.K m H->i g σ3 m->a0y X.K H g E->t E σ H):ON X st i:=yD h λE σ H ⟨σ3,m,g,a,b,c,d⟩=>f E σ H σ3 m g a b c d
def weakSs3{t i}(h:N6 X sts t)(f:∀E σ H σ3 m g,RS X.K H σ3 σ->RM X.K m H->i g σ3 m->a0y X.K H g E->t E σ H):CC X sts i:=TZ h λE σ H ⟨σ3,m,g,a,b,c,d⟩=>f E σ H σ3 m g a b c d
end
def go{K t σ3 σ m H Q3 R}(f:RS K H σ3 σ)(g:RM K m H)(h:t σ3 m Q3)
  (k:∀d v m' H',k_ K H' d v->RM K m' H'->Le H H'->RS K H' σ3 σ->Q3 d m'->R v H'):NA K t σ H R:=
 ⟨σ3,m,Q3,f,g,h,λd v m' H' a b c q=>k d v m' H' a b c (f.mono c) q⟩
def Yh{K t σ3 σ m H Q3 R}(f:RS K H σ3 σ)(g:RM K m H)(h:t σ3 m Q3)
  (k:∀b m' H',RM K m' H'->Le H H'->RS K H' σ3 σ->Q3 b m'->R b H'):CB K t σ H R:=
 ⟨σ3,m,Q3,f,g,h,λd m' H' b c q=>k d m' H' b c (f.mono c) q⟩
def SY{K t σ3 σ m H Q3 R}(f:RS K H σ3 σ)(g:RM K m H)(h:t σ3 m Q3)
  (k:∀d v m' H',dA K H' d v->RM K m' H'->Le H H'->RS K H' σ3 σ->Q3 d m'->R v H'):TY K t σ H R:=
 ⟨σ3,m,Q3,f,g,h,λd v m' H' a b c q=>k d v m' H' a b c (f.mono c) q⟩
def aT(i:Nat):jt:=λσ m Q=>match σ[i]? with
 |some (Z_ d)=>Q d m
 |_=>False
def cg(d:D):jt:=λ_ m Q=>Q d m
abbrev R3:=D->D->M->qE->Prop
def bj(r:R3)(ta tb:jt):jt:=λσ m Q=>ta σ m λx d=>tb σ d λy f=>r x y f Q
def vg(K:ab)(f:R3)(g:R2):Prop:=∀x y v u m H d Q,k_ K H x v->k_ K H y u->RM K m H->f x y m d->L_ K H d Q->g v u H Q
section
variable {X:Cx} {a b c e:ck} {ta tb tc te:jt} {pos:Pos}
nonrec def pv3(i:Nat){x pos}(g:X.N[i]?=Z_ x)(j:SU X.env.scope x)(l:2<|(x==("__debug__":Str))=ZX)
  (f:2<|(x==("__classdict__":Str))=ZX):fH X (.Name x pos) (aT i):=
 weakE3 (Xi g j l f) λσ H Q σ3 m Q3 n o h k=>by
  unfold aT at h;split at h
  .rename_i d e;obtain⟨v,p,r⟩:=n.get e;exact⟨v,p,k d v m H r o (.refl H) h⟩
  .exact h.elim
def aC{i j pos}:fH X (.Constant (.int i) j pos) (cg (.int i)):=weakE3 T8 λσ H Q σ3 m Q3 rs d h k=>k _ _ m H (.int i) d (.refl H) h
def jZ{i j pos}:fH X (.Constant (.bool i) j pos) (cg (.bl i)):=weakE3 Zb λσ H Q σ3 m Q3 rs d h k=>k _ _ m H (.bl i) d (.refl H) h
def iQ{j pos}:fH X (.Constant .none j pos) (cg .non):=weakE3 Xj λσ H Q σ3 m Q3 rs d h k=>k _ _ m H .non d (.refl H) h
def M0{i j pos}:fH X (.Constant (.str i) j pos) (cg (.str i)):=weakE3 Xk λσ H Q σ3 m Q3 rs d h k=>k _ _ m H (.str i) d (.refl H) h
def T_{x v u d pos}(f:Gl X x)(hm:X.mg x=Z_ u)(r:ee v u)(g:∀H,k_ X.K H d v)(i:2<|(x==("__debug__":Str))=ZX):fH X (.Name x pos) (cg d):=weakE3 (Qi f hm r i) λσ H Q σ3 m Q3 rs j h k=>k _ _ m H (g H) j (.refl H) h
def dE{l n o}(p:r0 X (pL l) n)(hs:vg X.K o n)(q:fH X a ta)(r:fH X b tb):fH X (.BinOp a l b pos) (bj o ta tb):=
 weakE3 (Zn p q r) λσ H Q σ3 m s w z h k=>go (t:=ta) w z h λx v m1 H1 A f g i h1=>go (t:=tb) i f h1 λy u B C D j d rs2 E=>hs x y v u B C s Q (A.mono d) D j E (k.le (g.trans d))
def jc{f n o}(p:r0 X (fo f) n)(hs:vg X.K o n)(q:fH X a ta)(r:fH X b tb)(hm:ma f b=ZX):fH X (.Compare a [f] [b] pos) (bj o ta tb):=
 weakE3 (VE p q r hm) λσ H Q σ3 m s w z h k=>go (t:=ta) w z h λx v m1 H1 A g i j h1=>go (t:=tb) j g h1 λy u B C D l d rs2 E=>hs x y v u B C s Q (A.mono d) D l E (k.le (i.trans d))
def a1l(x:D)(m:M)(Q:Bool->M->Prop):Prop:=match x with
 |.bl c=>Q c m
 |_=>False
def gz(t:jt):BB:=λσ m Q=>t σ m λx d=>a1l x d Q
def GZ{K H d v m Q3 Q}(r:k_ K H d v)(f:RM K m H)(h:a1l d m Q3)(k:ZN K H Q3 Q):∃c,v=.bl c/\Q c H:=by
 cases d with
 |bl c=>cases r;exact⟨c,rfl,k c m H f (.refl H) h⟩
 |_=>exact h.elim
def bY{g r s}(z:r0 X (fo g) r)(hs:vg X.K s r)(A:fH X a ta)(B:fH X b tb)(hm:ma g b=ZX):OM X (.Compare a [g] [b] pos) (gz (bj s ta tb)):=
 weakT3 (VF z A B hm) λσ H Q σ3 m C D E h k=>go (t:=ta) D E h λx v m1 H1 F i j l h1=>go (t:=tb) l i h1 λy u G I J n f rs2 L=>hs x y v u G I (λd m=>a1l d m C) _ (F.mono f) J n L λd w m3 H3 o p q M=>GZ o p M (k.le ((j.trans f).trans q))
def dq(h:fH X e te)(he:3<|∀whole,isTrue e X.env whole=(do let v <-whole;standAt e.pos;As [v] (truthy v))):OM X e (gz te):=weakT3 (Xn h he) λσ H Q σ3 m Q3 g i h k=>go g i h λx v m1 H1 j d f rs1 h1=>GZ j d h1 (k.le f)
def NC(t u:BB):BB:=λσ m Q=>t σ m λc d=>if c=ZY then u σ d Q else Q ZX d
def M3(t u:BB):BB:=λσ m Q=>t σ m λc d=>if c=ZY then Q ZY d else u σ d Q
def nh(t:BB):BB:=λσ m Q=>t σ m λc d=>Q (!c) d
variable {tA tB':BB} {rest:List ck}
def ij(g:OM X a tA):OM X (.UnaryOp .Not a pos) (nh tA):=weakT3 (Xq g) λσ H Q σ3 m Q3 i j h k=>Yh i j h λc l n d f rs1 h1=>k (!c) l n d f h1
def CD(d:OM X a tA):Ku X (.BoolOp .And [a] pos) tA:=Vx d
def tP(d:OM X a tA):Ku X (.BoolOp .Or [a] pos) tA:=Xo d
def G_(j:OM X a tA)(l:Ku X (.BoolOp .And (b::rest) pos) tB'):Ku X (.BoolOp .And (a::b::rest) pos) (NC tA tB'):=
 weakW3 (Xp j l) λσ H Q σ3 m n o p h k=>Yh o p h λc i q d f g h1=>by
  cases c with
  |true=>exact⟨σ3,i,n,g,d,h1,k.le f⟩
  |false=>exact k ZX i q d f h1
def yE(j:OM X a tA)(l:Ku X (.BoolOp .Or (b::rest) pos) tB'):Ku X (.BoolOp .Or (a::b::rest) pos) (M3 tA tB'):=
 weakW3 (Zd j l) λσ H Q σ3 m n o p h k=>Yh o p h λc i q d f g h1=>by
  cases c with
  |false=>exact⟨σ3,i,n,g,d,h1,k.le f⟩
  |true=>exact k ZY i q d f h1
def Ku.pt{t}(h:Ku X e t):OM X e t:=PW.pt h
def P8(ta tb:jt):jt:=λσ m Q=>ta σ m λx d=>match x with
 |.bl c=>if c=ZY then tb σ d Q else Q (.bl ZX) d
 |_=>False
def U0(ta tb:jt):jt:=λσ m Q=>ta σ m λx d=>match x with
 |.bl c=>if c=ZY then Q (.bl ZY) d else tb σ d Q
 |_=>False
def Ha{d t}(h:fH X a t):fH X (.BoolOp d [a] pos) t:=Xr h
def QC(j:fH X a ta)(l:fH X (.BoolOp .And (b::rest) pos) tb):fH X (.BoolOp .And (a::b::rest) pos) (P8 ta tb):=
 weakE3 (Xs j l) λσ H Q σ3 m n o p h k=>go o p h λx v i q r d f g h1=>by
  cases x with
  |bl c=>
   cases r;refine⟨c,rfl,?_⟩;cases c with
   |true=>exact⟨σ3,i,n,g,d,h1,k.le f⟩
   |false=>exact k _ _ i q (.bl ZX) d f h1
  |_=>exact h1.elim
def U1(j:fH X a ta)(l:fH X (.BoolOp .Or (b::rest) pos) tb):fH X (.BoolOp .Or (a::b::rest) pos) (U0 ta tb):=
 weakE3 (Zf j l) λσ H Q σ3 m n o p h k=>go o p h λx v i q r d f g h1=>by
  cases x with
  |bl c=>
   cases r;refine⟨c,rfl,?_⟩;cases c with
   |false=>exact⟨σ3,i,n,g,d,h1,k.le f⟩
   |true=>exact k _ _ i q (.bl ZY) d f h1
  |_=>exact h1.elim
def W3(t:BB)(ta tb:jt):jt:=λσ m Q=>t σ m λc d=>if c=ZY then ta σ d Q else tb σ d Q
def E5{c}(l:OM X c tA)(n:fH X a ta)(o:fH X b tb):fH X (.IfExp c a b pos) (W3 tA ta tb):=
 weakE3 (Ta l n o) λσ H Q σ3 m i p q h k=>Yh p q h λc j H1 d f g h1=>by
  cases c with
  |true=>exact⟨σ3,j,i,g,d,h1,k.le f⟩
  |false=>exact⟨σ3,j,i,g,d,h1,k.le f⟩
def rZ:D->Bool
 |.non=>ZY
 |_=>ZX
def xE(ta:jt):jt:=λσ m Q=>ta σ m λx d=>Q (.bl (rZ x)) d
def BC(ta:jt):jt:=λσ m Q=>ta σ m λx d=>Q (.bl (!rZ x)) d
def E6{K H d v}(r:k_ K H d v):decide (v=.non)=rZ d:=by cases r<;>simp[rZ]
def U2{j pos'}(g:fH X a ta):fH X (.Compare a [.IsNot] [.Constant .none j pos'] pos) (BC ta):=
 weakE3 (Xm (Qj g)) λσ H Q σ3 m Q3 i l h k=>go i l h λx v n o p d f rs1 h1=>by rw[E6 p];exact k _ _ n o (.bl _) d f h1
def nF{j pos'}(g:fH X a ta):OM X (.Compare a [.Is] [.Constant .none j pos'] pos) (gz (xE ta)):=
 weakT3 (T9 (Xl g)) λσ H Q σ3 m Q3 i l h k=>go i l h λx v m1 H1 n d f rs1 h1=>by rw[E6 n];exact GZ (.bl _) d h1 (k.le f)
def HJ{j pos'}(g:fH X a ta):OM X (.Compare a [.IsNot] [.Constant .none j pos'] pos) (gz (BC ta)):=
 weakT3 (T9 (Qj g)) λσ H Q σ3 m Q3 i l h k=>go i l h λx v m1 H1 n d f rs1 h1=>by rw[E6 n];exact GZ (.bl _) d h1 (k.le f)
end
def dX:gT:=λE σ m=>E.nx σ m
def aP(t u:gT):gT:=λE σ m=>t {E with nx:=u E} σ m
def fC(te:jt):gT:=λE σ m=>te σ m λ_ a=>E.nx σ a
def bz(te:jt):gT:=λE σ m=>te σ m E.rt
def cu(c:BB)(t u:gT):gT:=λE σ m=>c σ m λb a=>if b=ZY then t E σ a else u E σ a
def bS(i:Nat)(te:jt):gT:=λE σ m=>te σ m λd a=>E.nx (σ.set i (Z_ d)) a
section
variable {X:Cx} {st:cR} {rest:List cR} {t u:gT} {e o value:ck} {te ta tv:jt} {tc:BB} {pos:Pos}
def bg:CC X [] dX:=weakSs3 Vy λE σ H σ3 m E3 a b h k=>k.nx σ3 σ m H a b (.refl H) h
def ag(h1:ON X st t)(g:CC X rest u):CC X (st::rest) (aP t u):=weakSs3 (Tb h1 g) λE σ H σ3 m d i j h k=>⟨σ3,m,{d with nx:=u d},i,j,h,⟨λσ3' σ' l H' a b c q=>⟨σ3',l,d,a,b,q,k.le c⟩,k.rt,k.bk,k.ct⟩⟩
def aw(h1:ON X st t):CC X [st] t:=Vz h1
def dm(he:fH X e te)(hs:1<|me e ZZ pos.line X.env=pure ZX):ON X (.Expr e pos) (fC te):=weakS3 (VA he hs) λE σ H σ3 m E3 g i h k=>go (t:=te) g i h λd v j l _ a b c h1=>k.nx σ3 σ j l c a b h1
def aO(he:fH X e te):ON X (.Return (Z_ e) pos) (bz te):=weakS3 (Xt he) λE σ H σ3 m a b c h k=>⟨σ3,m,a.rt,b,c,h,k.rt⟩
def bK{c a b}(n:OM X c tc)(q:CC X a t)(r:CC X b u):ON X (.If c a b pos) (cu tc t u):=
 weakS3 (Zi n q r) λE σ H σ3 m j s v h k=>Yh (t:=tc) s v h λc l H1 d g i h1=>by
  cases c with
  |true=>exact⟨σ3,l,j,i,d,h1,k.le g⟩
  |false=>exact⟨σ3,l,j,i,d,h1,k.le g⟩
def W4{i:Nat}{x pos'}(g:X.N.Nodup)(j:X.N[i]?=Z_ x)(l:Qh X.env.scope x)(he:fH X e te)(hs:1<|me e (Z_ (.Name x pos')) pos.line X.env=pure ZX)
  (hf:5<|X.fn x=ZY\/X.env.scope.names.lookup x=Z_ .local):ON X (.Assign [.Name x pos'] e pos) (bS i te):=
 weakS3 (XB g j l he hs hf) λE σ H σ3 m E3 n q h k=>go (t:=te) n q h λd v s w r a b c h1=>k.nx _ _ s w (c.set r i) a b h1
def Kv(m:M)(x:D)(f:Str):Option D:=match x with
 |.ref a=>(match m a with
  |some (.ins _ b)=>b.lookup f
  |_=>ZZ)
 |_=>ZZ
def bJ(f:Str)(ta:jt):jt:=λσ m Q=>ta σ m λx a=>match Kv a x f with
 |some d=>Q d a
 |none=>False
nonrec def P9{m x f d}(h:Kv m x f=Z_ d):∃a C b,x=.ref a/\m a=Z_ (.ins C b)/\b.lookup f=Z_ d:=by
 cases x with
 |ref a=>
  unfold Kv at h;simp only at h;split at h
  .rename_i C b e;exact⟨a,C,b,rfl,e,h⟩
  .cases h
 |_=>cases h
def W5{f}(hf:f∈HI)(he:fH X e ta)(l:1<|g6 e f X.env (dh e X.env)=dh e X.env):fH X (.Attribute e f pos) (bJ f ta):=
 weakE3 (XN he l) λσ H Q σ3 m Q3 n q h k=>go (t:=ta) n q h λx v i r s b c rs1 h1=>by
  cases g:Kv i x f with
  |none=>rw[g]at h1;exact h1.elim
  |some d=>rw[g]at h1;obtain⟨a,C,fs,rfl,y,z⟩:=P9 g;obtain⟨A,B,D,E,j⟩:=b a _ y;obtain⟨w,F,G⟩:=E.look z;cases s;exact⟨a,C,A,B,w,rfl,D,j.cls,j.no f hf,F,k d w i r G b c h1⟩
def B1(m:M)(x:D):Option (ak×ak×List (Str×D)):=match x with
 |.ref a=>(match m a with
  |some (.ins C b)=>if b.length<100 then Z_ (a,C,b) else ZZ
  |_=>ZZ)
 |_=>ZZ
nonrec def Pa{m x a C}{c:List (Str×D)}(h:B1 m x=Z_ (a,C,c)):x=.ref a/\m a=Z_ (.ins C c)/\c.length<100:=by
 cases x with
 |ref b=>
  unfold B1 at h;simp only at h;split at h
  .rename_i C' fs' e;split at h
   .rename_i d;cases h;exact⟨rfl,e,d⟩
   .cases h
  .cases h
 |_=>cases h
def fD(f:Str)(ta tv:jt):gT:=λE σ m=>tv σ m λy c=>ta σ c λx b=>match B1 b x with
 |some (a,C,d)=>E.nx σ (bQ b a (.ins C (iA f y d)))
 |none=>False
def ve.put{K H f d v}(r:k_ K H d v):∀{b:List (Str×D)} {c:List (Str×V)},ve K H b c->ve K H (iA f d b) (wb f v c)
 |_,_,.nil=>.cons r .nil
 |_,_,.cons (f:=g) (d:=d') (v:=v') (r:=rs) (t:=ts) a q=>by
  unfold iA wb;by_cases e:g=f
  .rw[i0p e,i0p e];exact .cons r q
  .rw[i0n e,i0n e];exact .cons a (ve.put r q)
def eB{f pos'}(hf:f∈HI)(D:fH X o ta)(F:fH X value tv)(hs:1<|me value (Z_ (.Attribute o f pos')) pos.line X.env=pure ZX):ON X (.Assign [.Attribute o f pos'] value pos) (fD f ta tv):=
 weakS3 (XO D F hs) λE σ H σ3 m E3 G I h k=>go (t:=tv) G I h λy w m1 H1 J g i j h1=>go (t:=ta) j g h1 λx v K H2 L b c l d=>by
  cases n:B1 K x with
  |none=>rw[n]at d;exact d.elim
  |some p=>obtain⟨a,C,fs⟩:=p;rw[n]at d;obtain⟨rfl,M,e2⟩:=Pa n;obtain⟨q,A,r,B,s⟩:=b a _ M;cases L;have z:=rY (o:=.ins C q (wb f w A)) r trivial;refine⟨a,C,q,A,rfl,r,s.cls,s.no f hf,by rw[<-B.length];lia,k.nx σ3 σ _ _ (l.mono z) (b.wr r trivial ?_) ((i.trans c).trans z) d⟩;exact⟨q,_,eT,((B.put (J.mono c)).mono z),s⟩
def aH:Cz:=λ_ m Q=>Q [] m
def af(ta:jt)(tr:Cz):Cz:=λσ m Q=>ta σ m λx a=>tr σ a λb c=>Q (x::b) c
variable {es:List ck} {tr:Cz}
def ai:Ge X [] aH:=weakA3 DW λσ H Q σ3 m Q3 rs a h k=>k [] [] m H .nil a (.refl H) h
def a8(j:fH X e te)(l:Ge X es tr)(hs:1<|aU (e::es) X.env=(ZX,dh e X.env)::aU es X.env):Ge X (e::es) (af te tr):=
 weakA3 (pO j l hs) λσ H Q σ3 m Q3 n q h k=>go (t:=te) n q h λx v m1 H1 r b c d h1=>SY (t:=tr) d b h1 λxs vs s w g i a rs2 y=>k _ _ s w (.cons (r.mono a) g) i (c.trans a) y
inductive Fz(R:VK):V->Hp->Prop
 |done {v:V} {H:Hp}:R v H->Fz R v H
 |step {v:V} {H:Hp} (a:ak) (u:HO):H a=Z_ u->WO (Z_ u)->(∀od,Fz R v (gw H a (.frz od u)))->Fz R v H
def Fz.run{R v H}(h:Fz R v H){pins σ s}(I:cq X pins σ H s):∃H',cq X pins σ H' s/\R v H':=by
 induction h with
 |done q=>exact⟨_,I,q⟩
 |step a u e b _ c=>obtain⟨d,g⟩:=I.lock e b;exact c d g
def X1{t}(h:PE X e t):PE X e (λσ H Q=>t σ H (Fz Q)):=λpins s σ H Q I q=>jk (h pins s σ H _ I q) λu s1 Z=>Z23 Z λv H1 a r b=>by obtain⟨c,d,g⟩:=b.run a;exact⟨v,c,d,r,g⟩
def Yi{a t}(h:N6 X a t):N6 X a (λE σ H=>t {E with rt:=Fz E.rt} σ H):=λpins s σ H E I q=>jk (h pins s σ H _ I q) λfl s1 z=>by
 cases fl with
 |next=>exact z
 |brk=>exact z
 |cont=>exact z
 |ret u=>obtain⟨v,σ',H1,b,r,c⟩:=z;obtain⟨d,g,i⟩:=c.run b;exact⟨v,σ',d,g,r,i⟩
def HK{K m H p xs ds Q3 Q}(a:H p=ZZ)(b:RM K m H)(r:dA K H ds xs)(k:L_ K H Q3 Q)(q:Q3 (.lst ds) m):Fz Q (.ref p) (gw H p (.lst xs)):=by refine .step p (.lst xs) eT trivial λc=>.done ?_;rw[Vv];have le:=rX (o:=.frz c (.lst xs)) a;exact k _ _ m _ (.lst eT (r.mono le)) (b.new a) le q
def QD{K m H p xs ds Q3 Q}(a:H p=ZZ)(b:RM K m H)(r:dA K H ds xs)(k:L_ K H Q3 Q)(q:Q3 (.ref p) (bQ m p (.lst ds))):Q (.ref p) (gw H p (.lst xs)):=by have le:=rX (o:=.lst xs) a;exact k _ _ _ _ (.ref p) (b.lay (w:=.lst ds) a ⟨xs,eT,r.mono le⟩) le q
def Hb{K m H p xs ds Q3 Q}(a:H p=ZZ)(b:RM K m H)(r:dA K H ds xs)(k:L_ K H Q3 Q)(q:Q3 (.tup ds) m):Q (.ref p) (gw H p (.tup xs)):=by have le:=rX (o:=.tup xs) a;exact k _ _ _ _ (.tup eT (r.mono le)) (b.new a) le q
def l8(ta:Cz):jt:=λσ m Q=>ta σ m λa b=>if a.length<=100 then Q (.tup a) b else False
def dP(ta:Cz):jt:=λσ m Q=>ta σ m λa b=>if a.length<=100 then Q (.lst a) b else False
def iJ(ta:Cz):jt:=λσ m Q=>ta σ m λa b=>if a.length<=100 then ∀p,b p=ZZ->Q (.ref p) (bQ b p (.lst a)) else False
def HL{n:Nat}(h:n<=100):n<=bc:=by rw[ko];lia
def gA{g}(h:Ge X es tr):fH X (.Tuple es g pos) (l8 tr):=
 weakE3 (XQ h) λσ H Q σ3 m Q3 i j h k=>SY (t:=tr) i j h λl vs m1 H1 d a b rs1 h1=>by
  by_cases c:l.length<=100
  .rw[i0p c]at h1;exact⟨by rw[<-d.length];exact HL c,λp n=>Hb n a d (k.le b) h1⟩
  .rw[i0n c]at h1;exact h1.elim
def c7(h:Ge X es tr):fH X (.List es pos) (dP tr):=
 weakE3 (X1 (Ti h)) λσ H Q σ3 m Q3 g i h k=>SY (t:=tr) g i h λj vs m1 H1 d a b rs1 h1=>by
  by_cases c:j.length<=100
  .rw[i0p c]at h1;exact⟨by rw[<-d.length];exact HL c,λp l=>HK l a d (k.le b) h1⟩
  .rw[i0n c]at h1;exact h1.elim
def fk(h:Ge X es tr):fH X (.List es pos) (iJ tr):=
 weakE3 (Ti h) λσ H Q σ3 m Q3 i j h k=>SY (t:=tr) i j h λl vs m1 H1 d a b rs1 h1=>by
  by_cases c:l.length<=100
  .rw[i0p c]at h1;exact⟨by rw[<-d.length];exact HL c,λp g=>QD g a d (k.le b) (h1 p (a.free g))⟩
  .rw[i0n c]at h1;exact h1.elim
abbrev dW:=List D->M->qE->Prop
def l9(K:ab)(sp:dW):Sp:=λc H Q _=>∃a m b,dA K H a c/\RM K m H/\sp a m b/\L_ K H b Q
structure a6m{α:Type}(Q:α->M->Prop):Type
structure HoldU(P:Prop):Type
def holdP(P:Prop)(_:HoldU P):Prop:=P
def a6l{α:Type}(Q:α->M->Prop)(_:a6m Q):α->M->Prop:=Q
def a6o{α:Type}(Q:α->M->Prop)(u:a6m Q)(d:α)(m:M):a6l Q u d m=Q d m:=rfl
def bw(sp:dW)(ta:Cz):jt:=λσ m Q=>ta σ m λa b=>sp a b (a6l Q ⟨⟩)
def wg(C:ak)(sp:dW)(ta:Cz):jt:=λσ m Q=>ta σ m λb a=>∀x,a x=ZZ->sp (.ref x::b) (bQ a x (.ins C [])) (a6l (λ_ c=>Q (.ref x) c) ⟨⟩)
variable {k:Nat} {f C:ak} {fd:jx} {ps:List Str} {sp:dW} {x:Str} {p:Pos}
def U3(F:oU X.prog X.w X.K X.mg X.base Kr k f fd ps (l9 X.K sp))(g:jw k X.A)(i:Gl X x)(hm:X.mg x=Z_ (.ref f))(j:eJ X.K (.ref f)=ZY)(l:oY X.K fd ps [])
  (n:Ge X (e::es) tr)(a:2<|(x==("__debug__":Str))=ZX)(he:1<|aU (e::es) X.env=(ZX,dh e X.env)::aU es X.env)(b:1<|(gU pos (aU es X.env)).any (·.1)=ZX) :
  fH X (.Call (.Name x p) (e::es) [] pos) (bw sp tr):=
 weakE3 (VJ F g i hm j l .nil Qv n a he b) λσ H Q σ3 m q r s h k=>SY (t:=tr) r s h λv vs y H1 z c d rs1 h1=>by rw[e9];exact⟨v,y,q,z,c,h1,k.le d⟩
def ND{K m H ds vs Q3 Q}(z:RU K C)(A:dA K H ds vs)(w:RM K m H)(k:L_ K H Q3 Q)
  (h:∀x,m x=ZZ->sp (.ref x::ds) (bQ m x (.ins C [])) λ_ B=>Q3 (.ref x) B)(x a:ak)(y:H x=ZZ)(b:H a=ZZ)(i:a≠x)
  (c:∀ds m Q,sp ds m Q->sp ds m λd m'=>d=.non/\Q d m') :
  l9 K sp (.ref x::(vs++[])) (gw (gw H a (.own x)) x (.ins C a [])) (λv E=>v=.non/\Q (.ref x) E) E0:=by
 have g:gw H a (.own x) x=ZZ:=by rwa[dy (aG i)]
 have j:=rX (o:=.own x) b;have l:=rX (o:=.ins C a []) g;have le:=j.trans l;rw[e9];refine⟨.ref x::ds,bQ m x (.ins C []),_,.cons (.ref x) (A.mono le),(w.new b).lay g ⟨a,[],eT,.nil,z⟩,c _ _ _ (h x (w.free y)),λd v m' F r n s q=>?_⟩;obtain⟨rfl,q⟩:=q;cases r;exact⟨rfl,k _ _ m' F (.ref x) n (le.trans s) q⟩
def U4(n:RU X.K C)(a:∀ds m Q,sp ds m Q->sp ds m λd m'=>d=.non/\Q d m')(M:Mk X.K C f)(F:oU X.prog X.w X.K X.mg X.base Kr k f fd ps (l9 X.K sp))(q:jw (k+1) X.A)(r:Gl X x)(hm:X.mg x=Z_ (.ref C))(s:oY X.K fd ps [])
  (v:Ge X (e::es) tr)(b:2<|(x==("__debug__":Str))=ZX)(he:1<|aU (e::es) X.env=(ZX,dh e X.env)::aU es X.env)(c:1<|(gU pos (aU es X.env)).any (·.1)=ZX) :
  fH X (.Call (.Name x p) (e::es) [] pos) (wg C sp tr):=
 weakE3 (VL M F q r hm s .nil Qv v b he c) λσ H Q σ3 m Q3 z B h k=>SY (t:=tr) z B h λxs vs m1 H1 D g i rs1 h1=>λy E G j l=>ND n D g (k.le i) h1 y E G j l a
def RV(i:RU X.K C)(a:∀ds m Q,sp ds m Q->sp ds m λd m'=>d=.non/\Q d m')(M:Mk X.K C f)(F:oU X.prog X.w X.K X.mg X.base Kr k f fd ps (l9 X.K sp))(j:jw (k+1) X.A)(l:Gl X x)(hm:X.mg x=Z_ (.ref C))(n:oY X.K fd ps [])
  (b:2<|(x==("__debug__":Str))=ZX):fH X (.Call (.Name x p) [] [] pos) (wg C sp aH):=
 weakE3 (Tn M F j l hm n .nil Qv b) λσ H Q σ3 m Q3 rs q h k=>λy r s c g=>ND (ds:=[]) (vs:=[]) i .nil q k h y r s c g a
end
structure RW where
 items:List D
 ok:M->Prop
structure SZ(K:ab)(H0:Hp)(J:RW)(J2:It):Prop where
 len:J.items.length<=bc
 go:∀i m H,RM K m H->Le H0 H->J.ok m->i<J.items.length->J2.go i H
 yld:∀i m H x H',RM K m H->Le H0 H->J.ok m->i<J.items.length->J2.yld i H x H'->∃d,J.items[i]?=Z_ d/\k_ K H' d x/\RM K m H'/\Le H H'
 stop:∀m H,RM K m H->Le H0 H->J.ok m->J2.stop J.items.length H
abbrev OO:=Ck->M->(RW->M->Prop)->Prop
def X2(K:ab)(d:OO):TI:=λσ H R=>∃σ3 m R3,RS K H σ3 σ/\RM K m H/\d σ3 m R3/\∀J b c a,RM K c a->Le H a->SZ K a J b->R3 J c->R b a
def QE(X:Cx)(a iter:ck)(b:OO):Prop:=PI X a iter (X2 X.K b)
def HM{X a iter t t'}(h:PI X a iter t)(f:∀σ H R,t' σ H R->t σ H R):PI X a iter t':=λpins s σ H R I q=>h pins s σ H R I (f σ H R q)
def CF{α:Type}{l:List α}{i:Nat}(h:i<l.length):∃x,l[i]?=Z_ x:=⟨l[i],aj h⟩
def U5{K h a}{l:List D}(j:l.length<=bc):SZ K h ⟨l,λm=>m a=Z_ (.lst l)⟩ (a0t K a) where
 len:=j
 go:=λi m H b le ok g=>by obtain⟨c,h1,e⟩:=b a _ ok;obtain⟨d,f⟩:=CF g;obtain⟨v,k,_⟩:=e.get f;exact⟨c,v,ny.of h1,k⟩
 yld:=λi m H x H' b le ok g y=>by obtain⟨rfl,y⟩:=y;obtain⟨c,h1,e⟩:=b a _ ok;obtain⟨d,f,r⟩:=e.a2X (y c (ny.of h1));exact⟨d,f,r,b,.refl _⟩
 stop:=λm H b le ok=>by obtain⟨c,h1,e⟩:=b a _ ok;exact⟨c,ny.of h1,by rw[<-e.length];exact aN _⟩
def Yj{K b a o xs}{l:List D}(h:b a=Z_ (.frz o (.lst xs)))(r:dA K b l xs)(g:l.length<=bc):SZ K b ⟨l,λ_=>True⟩ (a0t K a) where
 len:=g
 go:=λi m H c le ok f=>by obtain⟨d,e⟩:=CF f;obtain⟨v,j,_⟩:=r.get e;exact⟨xs,v,.inl (.inr ⟨o,le.frz _ _ _ h⟩),j⟩
 yld:=λi m H x H' c le ok f y=>by obtain⟨rfl,y⟩:=y;obtain⟨d,e,q⟩:=(r.mono le).a2X (y xs (.inl (.inr ⟨o,le.frz _ _ _ h⟩)));exact⟨d,e,q,c,.refl _⟩
 stop:=λm H c le ok=>⟨xs,.inl (.inr ⟨o,le.frz _ _ _ h⟩),by rw[<-r.length];exact aN _⟩
def QF{K b a xs}{l:List D}(h:∀H,Le b H->oQ K H a xs)(r:dA K b l xs)(g:l.length<=bc):SZ K b ⟨l,λ_=>True⟩ (a0Q K a) where
 len:=g
 go:=λi m H c le ok f=>by obtain⟨d,e⟩:=CF f;obtain⟨v,j,_⟩:=r.get e;exact⟨xs,v,h H le,j⟩
 yld:=λi m H x H' c le ok f y=>by obtain⟨rfl,y⟩:=y;obtain⟨d,e,q⟩:=(r.mono le).a2X (y xs (h _ le));exact⟨d,e,q,c,.refl _⟩
 stop:=λm H c le ok=>⟨xs,h H le,by rw[<-r.length];exact aN _⟩
def QG{K H}:∀{k:K2} {xs:List V},cE (a0p H) k xs->dA K H (k.map WX) xs
 |_,_,.nil=>.nil
 |_,_,.cons (a:=x) q t=>by
  refine .cons ?_ (QG t);cases x with
  |inl i=>cases (show _=V.int i from q);exact .int i
  |inr l=>
   obtain⟨b,rfl,e⟩:=q;refine .tup e ?_;clear e;induction l with
   |nil=>exact .nil
   |cons z l c=>exact .cons (.int z) c
def U6{K H k a}(h:oT H k a):k_ K H (kD k) (.ref a):=by obtain⟨xs,e,p⟩:=h;exact .tup e (QG p)
def fL.keys{K H}:∀{a:List (K2×D)} {b:List (K2×V)},fL K H a b->a.map (·.1)=b.map (·.1)
 |_,_,.nil=>rfl
 |_,_,.cons e _ r=>by rw[aQ,aQ,e,fL.keys r]
def fL.len{K H}:∀{a:List (K2×D)} {b:List (K2×V)},fL K H a b->a.length=b.length
 |_,_,.nil=>rfl
 |_,_,.cons _ _ r=>by rw[aZ,aZ,fL.len r]
def fL.a2X{K H}:∀{c:List (K2×D)} {d:List (K2×V)} {i:Nat} {q:K2×V},fL K H c d->d[i]?=Z_ q->∃p,c[i]?=Z_ p/\p.1=q.1/\k_ K H p.2 q.2
 |_,_,_,_,.nil,e=>by simp at e
 |_,_,0,_,.cons a b _,e=>by have f:=az e;subst f;exact⟨_,rfl,a,b⟩
 |_,_,i+1,q,.cons _ _ r,e=>by obtain⟨p,h1,g⟩:=fL.a2X (i:=i) (q:=q) r (by simpa using e);exact⟨p,by simpa using h1,g⟩
def U7{K c a o d}{b:List (K2×D)}(h:c a=Z_ (.frz o (.dT d)))(r:fL K c b d)(g:b.length<=bc):SZ K c ⟨b.map λp=>kD p.1,λ_=>True⟩ (Y6 a o d) where
 len:=by rwa[ah]
 go:=λi m H e le ok f=>⟨le.frz _ _ _ h,by rw[ah]at f;rwa[<-r.len]⟩
 yld:=λi m H x H' e le ok f y=>by obtain⟨rfl,k,v,q,j,rfl,l⟩:=y;refine⟨kD k,?_,U6 l,e,.refl _⟩;obtain⟨p,h1,n,_⟩:=r.a2X j;show (b.map λp=>kD p.1)[i]?=_;rw[aR,h1];show Z_ (kD p.1)=_;rw[n]
 stop:=λm H e le ok=>⟨le.frz _ _ _ h,by rw[ah,r.len];exact aN _⟩
def U8{K c a o d}{b:List (K2×D)}(h:c a=Z_ (.frz o (.dT d)))(r:fL K c b d)(g:b.length<=bc):SZ K c ⟨b.map (·.2),λ_=>True⟩ (Ya a o d) where
 len:=by rwa[ah]
 go:=λi m H e le ok f=>⟨le.frz _ _ _ h,by rw[ah]at f;rwa[<-r.len]⟩
 yld:=λi m H x H' e le ok f y=>by obtain⟨rfl,k,j⟩:=y;obtain⟨p,h1,h2,l⟩:=(r.mono le).a2X j;refine⟨p.2,?_,l,e,.refl _⟩;show (b.map (·.2))[i]?=_;rw[aR,h1];rfl
 stop:=λm H e le ok=>⟨le.frz _ _ _ h,by rw[ah,r.len];exact aN _⟩
def eh(lo c:Int)(n:Nat):List D:=(bL n).map λ(i:Nat)=>D.int (lo+(i:Int)*c)
def rq{lo c:Int}{n i:Nat}(h:i<n):(eh lo c n)[i]?=Z_ (.int (lo+(i:Int)*c)):=by unfold eh;rw[aR,List.getElem?_range h];rfl
def QH{K c}{lo:Int}{n:Nat}(d:n<=bc):SZ K c ⟨eh lo 1 n,λ_=>True⟩ (Zk lo n) where
 len:=by simpa[eh] using d
 go:=λi m H a le ok b=>by
  have e:i<n:=by simpa[eh] using b
  exact e
 yld:=λi m H x H' a le ok b y=>by obtain⟨rfl,rfl⟩:=y;refine⟨_,rq (by simpa[eh] using b),?_,a,.refl _⟩;rw[Int.mul_one];exact .int _
 stop:=λm H a le ok=>by show n<=(eh lo 1 n).length;simp[eh]
def U9{K d}{lo c:Int}{n:Nat}(f:n<=bc):SZ K d ⟨eh lo c n,λ_=>True⟩ (a1h lo c n) where
 len:=by simpa[eh] using f
 go:=λi m H a le ok b=>by
  have e:i<n:=by simpa[eh] using b
  exact e
 yld:=λi m H x H' a le ok b y=>by obtain⟨rfl,rfl⟩:=y;exact⟨_,rq (by simpa[eh] using b),.int _,a,.refl _⟩
 stop:=λm H a le ok=>by show n<=(eh lo c n).length;simp[eh]
def yF(l:List D):List D:=l.zipIdx.map λp=>.tup [.int (p.2:Int),p.1]
def iG(l:List D):(yF l).length=l.length:=by simp[yF]
def vh{l}{i:Nat}{d}(h:l[i]?=Z_ d):(yF l)[i]?=Z_ (.tup [.int (i:Int),d]):=by simp[yF,aR,List.getElem?_zipIdx,h]
def AG(l m:List D):List D:=(l.zip m).map λp=>.tup [p.1,p.2]
def CG{l m}{i:Nat}{d e}(h:l[i]?=Z_ d)(h':m[i]?=Z_ e):(AG l m)[i]?=Z_ (.tup [d,e]):=by unfold AG;have a:(l.zip m)[i]?=Z_ (d,e):=List.getElem?_zip_eq_some.mpr ⟨h,h'⟩;rw[aR,a];rfl
def CH{K m H T xs ds}(b:RM K m H)(a:H T=ZZ)(r:dA K H ds xs):k_ K (gw H T (.tup xs)) (.tup ds) (.ref T)/\RM K m (gw H T (.tup xs))/\Le H (gw H T (.tup xs)):=⟨.tup eT (r.mono (rX a)),b.new a,rX a⟩
def Kw{K f a}{J:RW}(j:J.items.length<=bc)(h:∀m H,RM K m H->Le f H->J.ok m->∃xs,ny K H a xs/\dA K H J.items xs):SZ K f ⟨yF J.items,J.ok⟩ (a1i K a) where
 len:=by rwa[iG]
 go:=λi m H b le ok g=>by obtain⟨xs,h1,c⟩:=h m H b le ok;obtain⟨d,e⟩:=CF (l:=J.items) (by rwa[<-iG]);obtain⟨v,k,_⟩:=c.get e;exact⟨xs,v,h1,k⟩
 yld:=λi m H x H' b le ok g y=>by obtain⟨T,x',rfl,n,rfl,y⟩:=y;obtain⟨xs,h1,c⟩:=h m H b le ok;obtain⟨d,e,r⟩:=c.a2X (y xs h1);obtain⟨o,p,q⟩:=CH (ds:=[.int (i:Int),d]) b n (.cons (.int _) (.cons r .nil));exact⟨_,vh e,o,p,q⟩
 stop:=λm H b le ok=>by obtain⟨xs,h1,c⟩:=h m H b le ok;exact⟨xs,h1,by rw[<-c.length,iG];exact aN _⟩
def Kx{K f a}{J:RW}(j:J.items.length<=bc)(h:∀m H,RM K m H->Le f H->J.ok m->∃xs,oQ K H a xs/\dA K H J.items xs):SZ K f ⟨yF J.items,J.ok⟩ (Y7 K a) where
 len:=by rwa[iG]
 go:=λi m H b le ok g=>by obtain⟨xs,h1,c⟩:=h m H b le ok;obtain⟨d,e⟩:=CF (l:=J.items) (by rwa[<-iG]);obtain⟨v,k,_⟩:=c.get e;exact⟨xs,v,h1,k⟩
 yld:=λi m H x H' b le ok g y=>by obtain⟨T,x',rfl,n,rfl,y⟩:=y;obtain⟨xs,h1,c⟩:=h m H b le ok;obtain⟨d,e,r⟩:=c.a2X (y xs h1);obtain⟨o,p,q⟩:=CH (ds:=[.int (i:Int),d]) b n (.cons (.int _) (.cons r .nil));exact⟨_,vh e,o,p,q⟩
 stop:=λm H b le ok=>by obtain⟨xs,h1,c⟩:=h m H b le ok;exact⟨xs,h1,by rw[<-c.length,iG]⟩
def E7{l m:List D}{i:Nat}(h:i<(AG l m).length):i<l.length/\i<m.length:=by simp[AG]at h;lia
def NF{l m:List D}:l.length<=(AG l m).length\/m.length<=(AG l m).length:=by simp[AG];lia
def Ua{K n a b}{J l:RW}(hl:J.items.length<=bc)(h:∀m H,RM K m H->Le n H->J.ok m->∃xs,ny K H a xs/\dA K H J.items xs)(h':∀m H,RM K m H->Le n H->l.ok m->∃xs,ny K H b xs/\dA K H l.items xs):
  SZ K n ⟨AG J.items l.items,λm=>J.ok m/\l.ok m⟩ (a1j K a b) where
 len:=by simp[AG];lia
 go:=λi m H c le ok o=>by obtain⟨xs,h1,f⟩:=h m H c le ok.1;obtain⟨g,j,k⟩:=h' m H c le ok.2;obtain⟨d,p⟩:=CF (E7 o).1;obtain⟨e,q⟩:=CF (E7 o).2;obtain⟨v,s,_⟩:=f.get p;obtain⟨u,t,_⟩:=k.get q;exact⟨xs,g,v,u,h1,j,s,t⟩
 yld:=λi m H x H' c le ok o y=>by obtain⟨T,x',y',rfl,w,rfl,z,A⟩:=y;obtain⟨xs,h1,f⟩:=h m H c le ok.1;obtain⟨g,j,k⟩:=h' m H c le ok.2;obtain⟨d,p,r⟩:=f.a2X (z xs h1);obtain⟨e,q,B⟩:=k.a2X (A g j);obtain⟨C,D,E⟩:=CH (ds:=[d,e]) c w (.cons r (.cons B .nil));exact⟨_,CG p q,C,D,E⟩
 stop:=λm H c le ok=>by obtain⟨xs,h1,f⟩:=h m H c le ok.1;obtain⟨g,j,k⟩:=h' m H c le ok.2;exact⟨xs,g,h1,j,by rw[<-f.length,<-k.length];exact NF⟩
def Ub{K n a b}{J l:RW}(hl:J.items.length<=bc)(h:∀m H,RM K m H->Le n H->J.ok m->∃xs,oQ K H a xs/\dA K H J.items xs)(h':∀m H,RM K m H->Le n H->l.ok m->∃xs,ny K H b xs/\dA K H l.items xs):
  SZ K n ⟨AG J.items l.items,λm=>J.ok m/\l.ok m⟩ (Y9 K a b) where
 len:=by simp[AG];lia
 go:=λi m H c le ok o=>by obtain⟨xs,h1,f⟩:=h m H c le ok.1;obtain⟨g,j,k⟩:=h' m H c le ok.2;obtain⟨d,p⟩:=CF (E7 o).1;obtain⟨e,q⟩:=CF (E7 o).2;obtain⟨v,s,_⟩:=f.get p;obtain⟨u,t,_⟩:=k.get q;exact⟨xs,g,v,u,h1,j,s,t⟩
 yld:=λi m H x H' c le ok o y=>by obtain⟨T,x',y',rfl,w,rfl,z,A⟩:=y;obtain⟨xs,h1,f⟩:=h m H c le ok.1;obtain⟨g,j,k⟩:=h' m H c le ok.2;obtain⟨d,p,r⟩:=f.a2X (z xs h1);obtain⟨e,q,B⟩:=k.a2X (A g j);obtain⟨C,D,E⟩:=CH (ds:=[d,e]) c w (.cons r (.cons B .nil));exact⟨_,CG p q,C,D,E⟩
 stop:=λm H c le ok=>by obtain⟨xs,h1,f⟩:=h m H c le ok.1;obtain⟨g,j,k⟩:=h' m H c le ok.2;exact⟨xs,g,h1,j,by rw[<-f.length,<-k.length];exact NF⟩
def f_(m:M)(x:D):Option RW:=match x with
 |.tup l=>Z_ ⟨l,λ_=>True⟩
 |.mtup l=>Z_ ⟨l,λ_=>True⟩
 |.lst l=>Z_ ⟨l,λ_=>True⟩
 |.dic d=>Z_ ⟨d.map λp=>kD p.1,λ_=>True⟩
 |.ref a=>(match m a with
  |some (.lst l)=>Z_ ⟨l,λm=>m a=Z_ (.lst l)⟩
  |_=>ZZ)
 |_=>ZZ
def cS(te:jt):OO:=λσ m R=>te σ m λx d=>match f_ d x with
 |some J=>R J d
 |none=>False
section
variable {X:Cx} {tg e e2:ck} {te:jt} {tr:Cz} {p pos tpos apos cpos:Pos} {elts:List ck} {kk:Nat}
def dr(he:fH X e te):QE X tg e (cS te):=
 HM (Yc he) λσ H R Z=>Z34 Z λσ3 m R3 q s h k=>go (t:=te) q s h λx v i j n d f rs1 h1=>by
  cases x with
  |tup l=>
   cases n with
   |tup e r=>exact⟨_,rfl,.inr (.inl ⟨_,oQ.of e,λg=>k _ _ i j d f (QF (λH le=>oQ.of (le.tup _ _ e)) r (by rwa[r.length])) h1⟩)⟩
  |mtup l=>
   cases n with
   |mtup e r=>exact⟨_,rfl,.inr (.inl ⟨_,e.sq _,λg=>k _ _ i j d f (QF (λH le=>e.sq _) r (by rwa[r.length])) h1⟩)⟩
  |lst l=>
   cases n with
   |lst e r=>exact⟨_,rfl,.inl ⟨_,.inl (.inr ⟨_,e⟩),λg=>k _ _ i j d f (Yj e r (by rwa[r.length])) h1⟩⟩
  |dic l=>
   cases n with
   |dic e r=>exact⟨_,rfl,.inr (.inr ⟨_,_,e,λg=>k _ _ i j d f (U7 e r (by rwa[r.len])) h1⟩)⟩
  |ref a=>
   cases n;cases hm:i a with
   |none=>simp[f_,hm]at h1
   |some o=>
    cases o with
    |lst l=>simp only[f_,hm]at h1;obtain⟨xs,e,r⟩:=d a _ hm;exact⟨_,rfl,.inl ⟨_,ny.of e,λg=>k _ _ i j d f (U5 (by rwa[r.length])) h1⟩⟩
    |_=>simp[f_,hm]at h1
  |_=>exact h1.elim
def Pb(te:jt):OO:=λσ m R=>te σ m λx d=>match x with
 |.int j=>if 0<=j/\j<=100000 then R ⟨eh 0 1 j.toNat,λ_=>True⟩ d else False
 |_=>False
def Pc(ta tb:jt):OO:=λσ m R=>ta σ m λx d=>tb σ d λy f=>match x,y with
 |.int i,.int j=>if (-100000<=i/\i<=100000)/\-100000<=j/\j<=100000 then R ⟨eh i 1 (j-i).toNat,λ_=>True⟩ f else False
 |_,_=>False
def Pd(ta tb:jt):OO:=λσ m R=>ta σ m λx d=>tb σ d λy f=>match x,y with
 |.int i,.int j=>if 0<=i/\i<=j/\j<=100000 then R ⟨eh i 3 ((j-i+2) / 3).toNat,λ_=>True⟩ f else False
 |_,_=>False
def Pe{n:Nat}(h:n<=300000):n<=bc:=by rw[ko];lia
variable {a b c:ck} {ta tb:jt}
def Pf(i:Gl X "range")(hm:X.mg "range"=ZZ)(l:fH X a ta)(hs:1<|aU [a] X.env=[(ZX,dh a X.env)]):QE X tg (.Call (.Name "range" p) [a] [] pos) (Pb ta):=
 HM (Rt i hm (pO l DW hs) hs) λσ H R Z=>Z34 Z λσ3 m R3 n o h k=>go (t:=ta) n o h λx v q r s d f rs1 h1=>by
  cases x with
  |int j=>
   cases s;by_cases g:0<=j/\j<=100000
   .simp only[i0p g]at h1;exact⟨j,rfl,by lia,by lia,k _ _ q r d f (QH (Pe (by lia))) h1⟩
   .simp only[i0n g]at h1
  |_=>exact h1.elim
def Pg(s:Gl X "range")(hm:X.mg "range"=ZZ)(w:fH X a ta)(z:fH X b tb)(hs:1<|aU [a,b] X.env=[(ZX,dh a X.env),(ZX,dh b X.env)])(d:1<|aU [b] X.env=[(ZX,dh b X.env)]):
  QE X tg (.Call (.Name "range" p) [a,b] [] pos) (Pc ta tb):=
 HM (Ru s hm (pO w (pO z DW d) (by rw[hs,d])) hs d) λσ H R Z=>Z34 Z λσ3 m R3 A B h k=>go (t:=ta) A B h λx v m1 H1 C g l n h1=>go (t:=tb) n g h1 λy u D E F o q rs2 f=>by
  cases x with
  |int i=>
   cases C;cases y with
   |int j=>
    cases F;by_cases r:(-100000<=i/\i<=100000)/\-100000<=j/\j<=100000
    .simp only[i0p r]at f;exact⟨i,j,rfl,⟨by lia,by lia,by lia,by lia⟩,k _ _ D E o (l.trans q) (QH (Pe (by lia))) f⟩
    .simp only[i0n r]at f
   |_=>exact f.elim
  |_=>exact f.elim
def a1m{i j:Int}(h0:0<=i)(h1:i<=j)(h2:j<=100000):a1N i j 3 ((j-i+2) / 3).toNat:=by
 have e:jo i j 3=(j-i+2) / 3:=by unfold jo;rw[i0p (by decide)];split<;>lia
 refine⟨by decide,by decide,?_,by rw[e];lia⟩;unfold Builtin.Range.small;rw[e];simp only[Builtin.Range.rangeFitsLong,a_,l6,decide_eq_true_eq,beq_iff_eq,show (3:Int)>0 by decide,if_true];lia
def Ph{d:Nat}{f}(B:Gl X "range")(hm:X.mg "range"=ZZ)(C:fH X a ta)(D:fH X b tb)(hs:1<|aU [a,b,.Constant (.int 3) d f] X.env=(ZX,dh a X.env)::aU [b,.Constant (.int 3) d f] X.env)
  (n:1<|aU [b,.Constant (.int 3) d f] X.env=(ZX,dh b X.env)::aU [.Constant (.int 3) d f] X.env)(o:1<|aU [.Constant (.int 3) d f] X.env=[(ZX,dh (.Constant (.int 3) d f) X.env)])(q:1<|(gU pos (aU [b,.Constant (.int 3) d f] X.env)).any (·.1)=ZX) :
  QE X tg (.Call (.Name "range" p) [a,b,.Constant (.int 3) d f] [] pos) (Pd ta tb):=
 HM (RI B hm (pO C (pO D (pO T8 DW o) n) hs) hs q) λσ H R Z=>Z34 Z λσ3 m R3 E F h k=>go (t:=ta) E F h λx v m1 H1 G r s w h1=>go (t:=tb) w r h1 λy u I J K z A rs2 g=>by
  cases x with
  |int i=>
   cases G;cases y with
   |int j=>
    cases K;by_cases l:0<=i/\i<=j/\j<=100000
    .simp only[i0p l]at g;exact⟨i,j,3,_,rfl,a1m l.1 l.2.1 l.2.2,k _ _ I J z (s.trans A) (U9 (Pe (by lia))) g⟩
    .simp only[i0n l]at g
   |_=>exact g.elim
  |_=>exact g.elim
def r8:D->Bool
 |.tup _=>ZY
 |.mtup _=>ZY
 |.lst _=>ZY
 |.ref _=>ZY
 |_=>ZX
def r_(te:jt):OO:=λσ m R=>te σ m λx d=>match (if r8 x=ZY then f_ d x else ZZ) with
 |some J=>R ⟨yF J.items,J.ok⟩ d
 |none=>False
def yG(u:Gl X "enumerate")(hm:X.mg "enumerate"=ZZ)(w:fH X a ta)(hs:1<|aU [a] X.env=[(ZX,dh a X.env)]):QE X (.Tuple elts kk tpos) (.Call (.Name "enumerate" p) [a] [] pos) (r_ ta):=
 HM (TJ u hm (pO w DW hs) hs) λσ H R Z=>Z34 Z λσ3 m R3 y i h k=>go (t:=ta) y i h λx v j n q d f rs1 h1=>by
  cases x with
  |tup l=>
   cases q with
   |tup e r=>exact⟨_,_,rfl,.inr ⟨oQ.of e,λg=>k _ _ j n d f (Kx (J:=⟨l,λ_=>True⟩) (by show l.length<=_;rwa[r.length]) λm H i le ok=>⟨_,oQ.of (le.tup _ _ e),r.mono le⟩) h1⟩⟩
  |mtup l=>
   cases q with
   |mtup e r=>exact⟨_,_,rfl,.inr ⟨e.sq _,λg=>k _ _ j n d f (Kx (J:=⟨l,λ_=>True⟩) (by show l.length<=_;rwa[r.length]) λm H i le ok=>⟨_,e.sq _,r.mono le⟩) h1⟩⟩
  |lst l=>
   cases q with
   |lst e r=>exact⟨_,_,rfl,.inl ⟨.inl (.inr ⟨_,e⟩),λg=>k _ _ j n d f (Kw (J:=⟨l,λ_=>True⟩) (by show l.length<=_;rwa[r.length]) λm H i le ok=>⟨_,.inl (.inr ⟨_,le.frz _ _ _ e⟩),r.mono le⟩) h1⟩⟩
  |ref a=>
   cases q;cases hm:j a with
   |none=>simp[f_,r8,hm]at h1
   |some o=>
    cases o with
    |lst l=>simp only[f_,r8,hm,if_true]at h1;obtain⟨s,e,r⟩:=d a _ hm;refine⟨_,_,rfl,.inl ⟨ny.of e,λg=>k _ _ j n d f (Kw (J:=⟨l,λm=>m a=Z_ (.lst l)⟩) (by show l.length<=_;rwa[r.length]) λm H i le ok=>?_) h1⟩⟩;obtain⟨s,e,r⟩:=i a _ ok;exact⟨s,ny.of e,r⟩
    |_=>simp[f_,r8,hm]at h1
  |_=>exact h1.elim
def B2:D->Bool
 |.lst _=>ZY
 |.ref _=>ZY
 |_=>ZX
def Ky{K m H x v}{J:RW}(r:k_ K H x v)(d:RM K m H)(f:B2 x=ZY)(h:f_ m x=Z_ J):
  ∃a xs,v=.ref a/\ny K H a xs/\dA K H J.items xs/\J.ok m/\∀m' H',RM K m' H'->Le H H'->J.ok m'->∃xs,ny K H' a xs/\dA K H' J.items xs:=by
 cases x with
 |lst l=>
  cases r with
  |lst e r=>cases h;exact⟨_,_,rfl,.inl (.inr ⟨_,e⟩),r,trivial,λm H d le ok=>⟨_,.inl (.inr ⟨_,le.frz _ _ _ e⟩),r.mono le⟩⟩
 |ref a=>
  cases r;cases hm:m a with
  |none=>simp[f_,hm]at h
  |some o=>
   cases o with
   |lst l=>simp only[f_,hm]at h;cases h;obtain⟨xs,e,r⟩:=d a _ hm;refine⟨a,xs,rfl,ny.of e,r,hm,λm H d le ok=>?_⟩;obtain⟨xs,e,r⟩:=d a _ ok;exact⟨xs,ny.of e,r⟩
   |_=>simp[f_,hm]at h
 |_=>cases f
def RX{K m H x v}{J:RW}(r:k_ K H x v)(d:RM K m H)(hs:r8 x=ZY)(f:B2 x=ZX)(h:f_ m x=Z_ J):
  ∃a xs,v=.ref a/\oQ K H a xs/\dA K H J.items xs/\∀m' H',RM K m' H'->Le H H'->J.ok m'->∃xs,oQ K H' a xs/\dA K H' J.items xs:=by
 cases x with
 |tup l=>
  cases r with
  |tup e r=>cases h;exact⟨_,_,rfl,oQ.of e,r,λm H d le ok=>⟨_,oQ.of (le.tup _ _ e),r.mono le⟩⟩
 |mtup l=>
  cases r with
  |mtup e r=>cases h;exact⟨_,_,rfl,e.sq _,r,λm H d le ok=>⟨_,e.sq _,r.mono le⟩⟩
 |lst l=>cases f
 |ref l=>cases f
 |_=>cases hs
def NG(ta tb:jt):OO:=λσ m R=>ta σ m λx g=>tb σ g λy d=>match (if r8 x=ZY then f_ d x else ZZ),(if B2 y=ZY then f_ d y else ZZ) with
 |some J,Z_ f=>R ⟨AG J.items f.items,λm=>J.ok m/\f.ok m⟩ d
 |_,_=>False
def QI(N:Gl X "zip")(hm:X.mg "zip"=ZZ)(O:fH X a ta)(P:fH X b tb)(hs:1<|aU [a,b] X.env=(ZX,dh a X.env)::aU [b] X.env)(q:1<|aU [b] X.env=[(ZX,dh b X.env)])(r:1<|(gU pos (aU [b] X.env)).any (·.1)=ZX):
  QE X (.Tuple elts kk tpos) (.Call (.Name "zip" p) [a,b] [] pos) (NG ta tb):=
 HM (VZ N hm (pO O (pO P DW q) hs) hs r) λσ H R Z=>Z34 Z λσ3 m R3 Q S h k=>go (t:=ta) Q S h λx v m1 H1 T s l w h1=>go (t:=tb) w s h1 λy u o F U d g rs2 i=>by
  have n:=T.mono g;cases f:(if r8 x=ZY then f_ o x else ZZ) with
  |none=>rw[f]at i;exact i.elim
  |some J=>
   cases j:(if B2 y=ZY then f_ o y else ZZ) with
   |none=>rw[f,j]at i;exact i.elim
   |some J'=>
    rw[f,j]at i;have G:r8 x=ZY:=by cases z:r8 x with|true=>rfl|false=>rw[z]at f;cases f
    have I:B2 y=ZY:=by cases z:B2 y with|true=>rfl|false=>rw[z]at j;cases j
    rw[G,i0p rfl]at f;rw[I,i0p rfl]at j;obtain⟨b,K,rfl,L,q2,_,M⟩:=Ky U d I j;cases lx:B2 x with
    |true=>obtain⟨a,A,rfl,B,C,_,D⟩:=Ky n d lx f;exact⟨a,b,A,K,rfl,L,.inl ⟨B,λE=>k _ _ o F d (l.trans g) (Ua (by rwa[C.length]) D M) i⟩⟩
    |false=>obtain⟨a,A,rfl,B,C,D⟩:=RX n d G lx f;exact⟨a,b,A,K,rfl,L,.inr ⟨B,λE=>k _ _ o F d (l.trans g) (Ub (by rwa[C.length]) D M) i⟩⟩
def Pi(te:jt):OO:=λσ m R=>te σ m λx f=>match x with
 |.dic d=>R ⟨d.map (·.2),λ_=>True⟩ f
 |_=>False
def Pj(he:fH X e te)(d:1<|g6 e "values" X.env (dh e X.env)=dh e X.env)(f:1<|(apos.endLine==cpos.line)=ZY):QE X tg (.Call (.Attribute e "values" apos) [] [] cpos) (Pi te):=
 HM (P3 he d f) λσ H R Z=>Z34 Z λσ3 m R3 j n h k=>go (t:=te) j n h λx v o q s g i rs1 h1=>by
  cases x with
  |dic l=>
   cases s with
   |dic e r=>exact⟨_,_,_,rfl,e,λu=>k _ _ o q g i (U8 e r (by rwa[r.len])) h1⟩
  |_=>exact h1.elim
end
inductive Tg where
 |one (i:Nat)|two (i j:Nat)|three (i j k:Nat)
def Tg.slots:Tg->List Nat
 |.one i=>[i]
 |.two i j=>[i,j]
 |.three i j k=>[i,j,k]
def Tg.set(T:Tg)(d:D)(σ:Ck)(k:Ck->Prop):Prop:=match T with
 |.one i=>k (σ.set i (Z_ d))
 |.two i j=>(match d with
  |.tup [a,b]=>k ((σ.set i (Z_ a)).set j (Z_ b))
  |_=>False)
 |.three i j l=>(match d with
  |.tup [a,b,c]=>k (((σ.set i (Z_ a)).set j (Z_ b)).set l (Z_ c))
  |_=>False)
def Tg.g2(K:ab):Tg->TG
 |.one i=>xB i
 |.two i j=>Xx K 2 (Kg (xB i) (Kg (xB j) Xw))
 |.three i j k=>Xx K 3 (Kg (xB i) (Kg (xB j) (Kg (xB k) Xw)))
def a1O(T:Tg)(σ σ':L2.St):Prop:=σ'.length=σ.length/\∀i,i∉T.slots->σ'[i]?=σ[i]?
nonrec def Tg.sim{K}{T:Tg}{d v σ3 σ H t N}(h:T.set d σ3 t)(r:k_ K H d v)(g:RS K H σ3 σ)
  (k:∀σ3' σ',RS K H σ3' σ'->a1O T σ σ'->t σ3'->N σ' H):T.g2 K v σ H N:=by
 cases T with
 |one i=>refine k _ _ (g.set r i) ⟨d4,λj u=>?_⟩ h;exact dk (by intro e;subst e;exact u (by simp[Tg.slots]))
 |two i j=>
  unfold Tg.set at h;simp only at h;split at h
  .rename_i a b;cases r with
   |tup e q=>
    cases q with
    |cons m q=>
     cases q with
     |cons o q=>
      cases q;refine⟨_,_,rfl,oQ.of e,rfl,_,_,rfl,_,_,rfl,rfl,?_⟩;refine k _ _ ((g.set m i).set o j) ⟨by rw[d4,d4],λl f=>?_⟩ h;have p:i≠l:=by intro e;subst e;exact f (by simp[Tg.slots])
      have s:j≠l:=by intro e;subst e;exact f (by simp[Tg.slots])
      rw[dk s,dk p]
  .exact h.elim
 |three i j n=>
  unfold Tg.set at h;simp only at h;split at h
  .rename_i a b c;cases r with
   |tup e q=>
    cases q with
    |cons m q=>
     cases q with
     |cons o q=>
      cases q with
      |cons w q=>
       cases q;refine⟨_,_,rfl,oQ.of e,rfl,_,_,rfl,_,_,rfl,_,_,rfl,rfl,?_⟩;refine k _ _ (((g.set m i).set o j).set w n) ⟨by rw[d4,d4,d4],λl f=>?_⟩ h;have p:i≠l:=by intro e;subst e;exact f (by simp[Tg.slots])
       have s:j≠l:=by intro e;subst e;exact f (by simp[Tg.slots])
       have x:n≠l:=by intro e;subst e;exact f (by simp[Tg.slots])
       rw[dk x,dk s,dk p]
  .exact h.elim
abbrev LI3:=Nat->Ck->M->Prop
abbrev LC3:=Nat->List D->M->Prop
def dQ(wi:OO)(T:Tg)(tb:gT):gT:=λE σ m=>wi σ m λJ a=>∃I:Nat->Ck->M->Prop,I 0 σ a/\(∀i σ m,i<=J.items.length->I i σ m->J.ok m) /\
 holdP (∀i d σ m,J.items[i]?=Z_ d->I i σ m->T.set d σ λσ2=>tb {E with nx:=I (i+1),ct:=I (i+1),bk:=E.nx} σ2 m) ⟨⟩/\holdP (∀σ m,I J.items.length σ m->E.nx σ m) ⟨⟩
section
variable {X:Cx} {tg iter:ck} {body:List cR} {wi:OO} {T:Tg} {tb:gT} {pos:Pos}
def W6(Q:Hq (bI X.prog X.w) X.A X.env X.xe)(R:X.calm=ZY)(v:QE X tg iter wi)(S:PG X tg (T.g2 X.K))(U:CC X body tb)
  (hs:3<|∀x,fc iter X.env x=pure x):ON X (.For tg iter body [] pos) (dQ wi T tb):=
 weakS3 (XD Q R v S U hs) λE σ H σ3 m E3 N V h k=>by
  refine⟨σ3,m,_,N,V,h,λJ J2 W O D o s Y=>?_⟩;obtain⟨Iv,Z,t,step,F⟩:=Y;refine⟨λi n σ H=>n=J.items.length-i/\i<=J.items.length/\∃σ3 m,RS X.K H σ3 σ/\RM X.K m H/\Le O H/\Iv i σ3 m,⟨J.items.length,rfl,gj _,σ3,W,N.mono o,D,.refl _,Z⟩,?_⟩;rintro i n σ' G ⟨rfl,v,σ3',z,B,p,j,C⟩;by_cases u:i<J.items.length
  .refine .inr ⟨s.go i z G p j (t i _ _ v C) u,λσ H=>∃σ3 m,RS X.K H σ3 σ/\RM X.K m H/\Le O H/\Iv (i+1) σ3 m,λσ2 P q=>⟨J.items.length-(i+1),by lia,rfl,u,q⟩,λx P y=>?_⟩;obtain⟨d,hd,r,I,l⟩:=s.yld i z G x P p j (t i _ _ v C) u y;refine Tg.sim (step i d σ3' z hd C) r (B.mono l) λσ4 σ5 L _ q=>?_;refine⟨σ4,z,_,L,I,q,⟨λa b c d e f g M=>⟨a,c,e,f,(j.trans l).trans g,M⟩,k.rt.le ((o.trans j).trans l),k.nx.le ((o.trans j).trans l),λa b c d e f g M=>⟨a,c,e,f,(j.trans l).trans g,M⟩⟩⟩
  .have e:i=J.items.length:=by lia
   subst e;exact .inl ⟨s.stop z G p j (t _ _ _ v C),k.nx _ _ _ _ B p (o.trans j) (F _ _ C)⟩
def tQ(c:BB)(tb:gT):gT:=λE σ m=>∃W:Nat->Ck->M->Prop,(∃n,W n σ m)/\∀n σ m,W n σ m ->
 c σ m λb e=>if b=ZY then tb {E with nx:=λσ' d=>∃a,a<n/\W a σ' d,ct:=λσ' d=>∃a,a<n/\W a σ' d,bk:=E.nx} σ e else E.nx σ e
def RY{c v}(D:Hq (bI X.prog X.w) X.A X.env X.xe)(F:OM X c v)(G:CC X body tb):ON X (.While c body [] pos) (tQ v tb):=
 weakS3 (Tc D F G) λE σ H σ3 m E3 I J h k=>by
  obtain⟨W,⟨L,M⟩,turn⟩:=h;refine⟨λn σ s=>∃σ3 m,RS X.K s σ3 σ/\RM X.K m s/\Le H s/\W n σ3 m,⟨L,σ3,m,I,J,.refl _,M⟩,?_⟩;rintro n σ' s ⟨σ3',N,x,z,o,w⟩;refine Yh (t:=v) x z (turn n σ3' N w) λb O H1 p q r h1=>?_;cases b with
  |true=>refine⟨λσ u=>∃l σ3 m,l<n/\RS X.K u σ3 σ/\RM X.K m u/\Le H u/\W l σ3 m,λσ2 u ⟨l,a,b,c,d⟩=>⟨l,c,a,b,d⟩,?_⟩;have j:=o.trans q;exact⟨σ3',O,_,r,p,h1,⟨λa b c d e f g B=>(let ⟨l,h1,C⟩:=B;⟨l,a,c,h1,e,f,j.trans g,C⟩),k.rt.le j,k.nx.le j,λa b c d e f g B=>(let ⟨l,h1,C⟩:=B;⟨l,a,c,h1,e,f,j.trans g,C⟩)⟩⟩
  |false=>exact k.nx _ _ _ _ r p (o.trans q) h1
end
def kS(σ:Ck):List Nat->Ck
 |[]=>σ
 |v::a=>(kS σ a).set v ZZ
def RS.a4I{K H}{σ3:Ck}{σ:L2.St}(h:RS K H σ3 σ):∀(i:Nat),RS K H (σ3.set i ZZ) (σ.set i ZZ):=by
 unfold RS at h ⊢;induction h with
 |nil=>intro i;exact .nil
 |cons q t a=>
  intro i;cases i with
  |zero=>exact .cons trivial t
  |succ i=>exact .cons q (a i)
def RS.wipe{K H σ3 σ}(h:RS K H σ3 σ):∀vs:List Nat,RS K H (kS σ3 vs) (L2.uj σ vs)
 |[]=>h
 |v::vs=>(RS.wipe h vs).a4I v
def HN{σ:L2.St}:∀{vs:List Nat} {i:Nat},i∈vs->i<σ.length->(L2.uj σ vs)[i]?=Z_ ZZ
 |v::vs,i,h,a=>by
  unfold L2.uj;by_cases e:v=i
  .subst e;rw[kX (by rwa[l7])]
  .rw[dk e];rcases aL.mp h with z|z
   .exact absurd z.symm e
   .exact HN z a
def Uc{T:Tg}{σ σ' vs}(h:a1O T (L2.uj σ vs) σ')(d:∀i∈T.slots,i∈vs):L2.uj σ' vs=L2.uj σ vs:=by
 have c:σ'.length=σ.length:=by rw[h.1,l7]
 refine qb λi=>?_;by_cases b:i∈vs
 .by_cases a:i<σ.length
  .rw[HN b a,HN b (by rwa[c])]
  .rw[cv (by rw[l7,c];lia),cv (by rw[l7];lia)]
 .rw[Nl b,h.2 i (λz=>b (d i z))]
def jd(m:M)(a:ak):M:=λb=>if b=a then ZZ else m b
nonrec def ia{m a o}(h:m a=ZZ):jd (bQ m a o) a=m:=by
 funext b
 unfold jd bQ;split
 .rename_i e;subst e;exact h.symm
 .rfl
def yH(m:M)(a:ak):Cj (jd m a) m:=λb o e=>by
 unfold jd at e;split at e
 .cases e
 .exact e
def A4(J:RW)(T:Tg)(tt:BB)(te:jt)(σ2:Ck)(p:ak)(g:M)(fin:List D->M->Prop):Prop:=∃I:Nat->List D->M->Prop,I 0 [] (bQ g p (.lst []))/\(∀i a m,i<=J.items.length->I i a m->m p=Z_ (.lst a)/\J.ok m) /\
 (∀i d a m,J.items[i]?=Z_ d->I i a m->T.set d σ2 λσ2=>tt σ2 m λb c=>if b=ZY then te σ2 c λe f=>f p=Z_ (.lst a)/\I (i+1) (a++[e]) (bQ f p (.lst (a++[e]))) else I (i+1) a c) /\
 ∀a m,I J.items.length a m->fin a m
def ku(wi:OO)(T:Tg)(tt:BB)(te:jt)(vs:List Nat):jt:=λσ m Q=>wi σ m λJ b=>∀p,b p=ZZ->A4 J T tt te (kS σ vs) p b λa m=>Q (.lst a) (jd m p)
def Kz(wi:OO)(T:Tg)(tt:BB)(te:jt)(vs:List Nat):jt:=λσ m Q=>wi σ m λJ a=>∀p,a p=ZZ->A4 J T tt te (kS σ vs) p a λacc m=>Q (.ref p) m
def Pk(X:Cx)(ifs:List ck)(t:BB):Prop:=Z1 X ifs (CB X.K t)
def ib:BB:=λ_ m Q=>Q ZY m
def ic{X}:Pk X [] ib:=λpins s σ H Q I Z=>Z34 Z λσ3 m Q3 rs a h k=>VS pins s σ H Q I (k ZY m H a (.refl H) h)
def CI{X c t}(h:OM X c t):Pk X [c] t:=VT h
def M4{K:ab}{wi:OO}{T:Tg}{tt:BB}{te:jt}{vs:List Nat}(hT:∀i∈T.slots,i∈vs){Q:VK}{σ:L2.St}{H:Hp}{σ3:Ck}{m:M}{fin:ak->List D->M->Prop}(S:RS K H σ3 σ)(rm:RM K m H)
  (h:wi σ3 m λJ F=>∀p,F p=ZZ->A4 J T tt te (kS σ3 vs) p F (fin p))(k:∀p acc xs m' H',m' p=Z_ (.lst acc)->H' p=Z_ (.lst xs)->dA K H' acc xs->RM K m' H'->Le H H'->fin p acc m'->Q (.ref p) H') :
  ZH (X2 K wi) (T.g2 K) (CB K tt) (NA K te) vs σ H Q:=by
 refine⟨σ3,m,_,S,rm,h,λJ J2 F U l s f hR=>?_⟩;intro D G;obtain⟨Iv,i0,I,step,fn⟩:=hR D (l.free G);have lD:=rX (o:=.lst []) G;refine⟨λi n H=>n=J.items.length-i/\i<=J.items.length/\∃acc m,RM K m H/\Le U H/\acc.length<=i/\Iv i acc m,⟨J.items.length,rfl,gj _,[],_,l.lay (w:=.lst []) G ⟨[],eT,.nil⟩,lD,aN _,i0⟩,?_⟩;rintro i n H' ⟨rfl,hi,acc,m',c,a,hacc,L⟩;obtain⟨V,ok⟩:=I i acc m' hi L;by_cases g:i<J.items.length
 .refine .inr ⟨f.go i m' H' c a ok g,λH=>∃acc m,RM K m H/\Le U H/\acc.length<=i+1/\Iv (i+1) acc m,λW q=>⟨J.items.length-(i+1),by lia,rfl,g,q⟩,λx W y=>?_⟩;obtain⟨d,hd,r,N,j⟩:=f.yld i m' H' x W c a ok g y;refine Tg.sim (step i d acc m' hd L) r ((S.mono ((s.trans a).trans j)).wipe vs) λσ4 σ5 u off q=>⟨Uc off hT,?_⟩
  refine Yh (t:=tt) u N q λb m3 H3 z A O Y=>?_;cases b with
  |false=>exact⟨acc,m3,z,(a.trans j).trans A,by lia,Y⟩
  |true=>
   refine go (t:=te) O z Y λe v m4 H4 re B P u R=>?_;obtain⟨h4,R⟩:=R;obtain⟨xs,C,E⟩:=B D _ h4;have hlen:xs.length<bc:=by have:=f.len;have e3:=E.length;lia
   have Z:=rY (o:=.lst (xs++[v])) C trivial;refine⟨xs,C,hlen,acc++[e],_,B.wr (w:=.lst (acc++[e])) C trivial ⟨_,eT,(E.append (.cons re .nil)).mono Z⟩,(((a.trans j).trans A).trans P).trans Z,by rw[aK];simp;lia,R⟩
 .have e:i=J.items.length:=by lia
  subst e;obtain⟨xs,C,E⟩:=c D _ V;exact .inl ⟨f.stop m' H' c a ok,k D acc xs m' H' V C E c (s.trans a) (fn _ _ L)⟩
section
variable {X:Cx} {elt tg iter:ck} {ifs:List ck} {scope:gn} {own:List (Str×Nat)} {pos spos py:Pos} {wi:OO} {T:Tg} {tt:BB} {te:jt} {i:Nat} {y:Str}
def ZO{K m H p xs ds Q3 Q}(hp:m p=Z_ (.lst ds))(c:H p=Z_ (.lst xs))(r:dA K H ds xs)(d:RM K m H)(k:L_ K H Q3 Q)(q:Q3 (.lst ds) (jd m p)):Fz Q (.ref p) H:=by
 refine .step p (.lst xs) c trivial λf=>.done ?_;have b:=rY (o:=.frz f (.lst xs)) c trivial;refine k _ _ (jd m p) _ (.lst eT (r.mono b)) (λa o e=>?_) b q;have g:a≠p:=by intro z;subst z;unfold jd at e;rw[i0p rfl]at e;cases e
 exact (d a o (yH m p a o e)).mono b (dy g)
def Yk(c:X.calm=ZY)(d:X.N.Nodup)(e:QE X tg iter wi)(ok:xD X.N X.env.scope scope own)(f:∀i∈T.slots,i∈own.map (·.2))
  (g:∀(s:aA) (H:Hp) (C:ak) (cl:List (Str×ak)) (a:List ak),PG (X.blk s H scope (cH scope cl C X.env) a) tg (T.g2 X.K))(j:∀(s:aA) (H:Hp) (C:ak) (cl:List (Str×ak)) (a:List ak),Pk (X.blk s H scope (cH scope cl C X.env) a) ifs tt)
  (he:∀(s:aA) (H:Hp) (C:ak) (cl:List (Str×ak)) (a:List ak),fH (X.blk s H scope (cH scope cl C X.env) a) elt te)(hs:3<|∀x,fc iter X.env x=pure x) :
  fH X (.ListComp elt [⟨tg,iter,ifs,0⟩] scope pos) (ku wi T tt te (own.map (·.2))):=
 weakE3 (X1 (WT (tt:=CB X.K tt) (te:=NA X.K te) c d e ok g j he hs)) λσ H Q σ3 m l n o h k=>M4 (fin:=λp b m=>l (.lst b) (jd m p)) f n o h λp b xs m' H' h1 q r t u v=>ZO h1 q r t (k.le u) v
def W7(c:X.calm=ZY)(d:X.N.Nodup)(e:QE X tg iter wi)(ok:xD X.N X.env.scope scope own)(f:∀i∈T.slots,i∈own.map (·.2))
  (g:∀(s:aA) (H:Hp) (C:ak) (cl:List (Str×ak)) (a:List ak),PG (X.blk s H scope (cH scope cl C X.env) a) tg (T.g2 X.K))(j:∀(s:aA) (H:Hp) (C:ak) (cl:List (Str×ak)) (a:List ak),Pk (X.blk s H scope (cH scope cl C X.env) a) ifs tt)
  (he:∀(s:aA) (H:Hp) (C:ak) (cl:List (Str×ak)) (a:List ak),fH (X.blk s H scope (cH scope cl C X.env) a) elt te)(hs:3<|∀x,fc iter X.env x=pure x) :
  fH X (.ListComp elt [⟨tg,iter,ifs,0⟩] scope pos) (Kz wi T tt te (own.map (·.2))):=
 weakE3 (WT (tt:=CB X.K tt) (te:=NA X.K te) c d e ok g j he hs) λσ H Q σ3 m l n o h k=>M4 (fin:=λp b m=>l (.ref p) m) f n o h λp b xs q r h1 h2 h3 t u v=>k _ _ q r (.ref p) t u v
def Yl{st t}(h:PS X st t):PS X st (λE σ H=>t {E with nx:=λσ' H'=>∃a u,H' a=Z_ u/\WO (Z_ u)/\∀b,E.nx σ' (gw H' a (.frz b u))} σ H):=λpins s σ H E I q=>jk (h pins s σ H _ I q) λfl s1 z=>by
 cases fl with
 |next=>obtain⟨σ',H1,c,a,u,e,d,q⟩:=z;obtain⟨b,f⟩:=c.lock e d;exact⟨σ',_,f,q b⟩
 |brk=>exact z
 |cont=>exact z
 |ret u=>exact z
def A5(t:X.calm=ZY)(u:X.N.Nodup)(v:X.N[i]?=Z_ y)(f:X.env.scope.names.lookup y=Z_ .local)
  (g:me (.ListComp elt [⟨tg,iter,ifs,0⟩] scope pos) (Z_ (.Name y py)) spos.line X.env=pure ZY)(w:QE X tg iter wi)(ok:xD X.N X.env.scope scope own)(A:∀i∈T.slots,i∈own.map (·.2))
  (B:∀(s:aA) (H:Hp) (C:ak) (cl:List (Str×ak)) (b:List ak),PG (X.blk s H scope (cH scope cl C X.env) b) tg (T.g2 X.K))(D:∀(s:aA) (H:Hp) (C:ak) (cl:List (Str×ak)) (b:List ak),Pk (X.blk s H scope (cH scope cl C X.env) b) ifs tt)
  (he:∀(s:aA) (H:Hp) (C:ak) (cl:List (Str×ak)) (b:List ak),fH (X.blk s H scope (cH scope cl C X.env) b) elt te)(hs:3<|∀x,fc iter X.env x=pure x) :
  ON X (.Assign [.Name y py] (.ListComp elt [⟨tg,iter,ifs,0⟩] scope pos) spos) (bS i (ku wi T tt te (own.map (·.2)))):=
 weakS3 (Yl (Nk (tt:=CB X.K tt) (te:=NA X.K te) t u v f g w ok B D he hs)) λE σ H σ3 m F j G h k=>
  M4 (fin:=λp c m=>F.nx (σ3.set i (Z_ (.lst c))) (jd m p)) A j G h λp c l n H' h1 q I J r L=>by
   refine⟨p,.lst l,q,trivial,λM=>?_⟩;have d:=rY (o:=.frz M (.lst l)) q trivial;refine k.nx _ _ (jd n p) _ (((j.mono r).mono d).set (.lst eT (I.mono d)) i) (λa o e=>?_) (r.trans d) L;have O:a≠p:=by intro z;subst z;unfold jd at e;rw[i0p rfl]at e;cases e
   exact (J a o (yH n p a o e)).mono d (dy O)
def Pl(g:X.calm=ZY)(j:X.N.Nodup)(l:X.N[i]?=Z_ y)(b:X.env.scope.names.lookup y=Z_ .local)
  (c:me (.ListComp elt [⟨tg,iter,ifs,0⟩] scope pos) (Z_ (.Name y py)) spos.line X.env=pure ZY)(n:QE X tg iter wi)(ok:xD X.N X.env.scope scope own)(o:∀i∈T.slots,i∈own.map (·.2))
  (q:∀(s:aA) (H:Hp) (C:ak) (cl:List (Str×ak)) (a:List ak),PG (X.blk s H scope (cH scope cl C X.env) a) tg (T.g2 X.K))(r:∀(s:aA) (H:Hp) (C:ak) (cl:List (Str×ak)) (a:List ak),Pk (X.blk s H scope (cH scope cl C X.env) a) ifs tt)
  (he:∀(s:aA) (H:Hp) (C:ak) (cl:List (Str×ak)) (a:List ak),fH (X.blk s H scope (cH scope cl C X.env) a) elt te)(hs:3<|∀x,fc iter X.env x=pure x) :
  ON X (.Assign [.Name y py] (.ListComp elt [⟨tg,iter,ifs,0⟩] scope pos) spos) (bS i (Kz wi T tt te (own.map (·.2)))):=
 weakS3 (Nk (tt:=CB X.K tt) (te:=NA X.K te) g j l b c n ok q r he hs) λE σ H σ3 m t e u h k=>M4 (fin:=λp d m=>t.nx (σ3.set i (Z_ (.ref p))) m) o e u h λp d xs v w h1 h2 h3 z f A=>k.nx _ _ v w ((e.mono f).set (.ref p) i) z f A
end
def jL:List D->Option (List Int)
 |[]=>Z_ []
 |.int i::r=>(jL r).map (i::·)
 |_=>ZZ
def Hc:D->Option K1
 |.int i=>Z_ (.inl i)
 |.tup l=>(jL l).map .inr
 |_=>ZZ
def sd:List D->Option K2
 |[]=>Z_ []
 |d::r=>match Hc d,sd r with
  |some a,Z_ b=>Z_ (a::b)
  |_,_=>ZZ
def oZ:D->Option K2
 |.tup l=>sd l
 |_=>ZZ
def HP(l:List Int):jL (l.map D.int)=Z_ l:=by
 induction l with
 |nil=>rfl
 |cons a l b=>rw[aQ,jL,b];rfl
def Pn(k:K1):Hc (WX k)=Z_ k:=by
 cases k with
 |inl i=>rfl
 |inr l=>show (jL (l.map D.int)).map l4=_;rw[HP];rfl
def HQ(k:K2):oZ (kD k)=Z_ k:=by
 show sd (k.map WX)=Z_ k;induction k with
 |nil=>rfl
 |cons a k b=>rw[aQ,sd,Pn,b]
def ni:∀{l:List D} {a:List Int},jL l=Z_ a->l=a.map D.int
 |[],a,h=>by cases h;rfl
 |.int i::r,a,h=>by rw[jL]at h;obtain⟨ms,h1,rfl⟩:=gu.mp h;rw[ni h1];rfl
 |.non::_,_,h=>by cases h
 |.bl _::_,_,h=>by cases h
 |.str _::_,_,h=>by cases h
 |.ref _::_,_,h=>by cases h
 |.tup _::_,_,h=>by cases h
 |.lst _::_,_,h=>by cases h
 |.dic _::_,_,h=>by cases h
 |.mtup _::_,_,h=>by cases h
def M5{d k}(h:Hc d=Z_ k):d=WX k:=by
 cases d with
 |int i=>cases h;rfl
 |tup l=>obtain⟨ns,h1,rfl⟩:=gu.mp (show (jL l).map l4=Z_ k from h);rw[ni h1];rfl
 |_=>cases h
def B3:∀{l:List D} {k:K2},sd l=Z_ k->l=k.map WX
 |[],k,h=>by cases h;rfl
 |d::r,k,h=>by
  rw[sd]at h;cases h1:Hc d with
  |none=>rw[h1]at h;cases h
  |some a=>
   cases c:sd r with
   |none=>rw[h1,c]at h;cases h
   |some b=>rw[h1,c]at h;cases h;rw[aQ,M5 h1,B3 c]
def Po{d k}(h:oZ d=Z_ k):d=kD k:=by
 cases d with
 |tup l=>show D.tup l=D.tup (k.map WX);rw[B3 h]
 |_=>cases h
section
variable {K:ab} {H:Hp} {m:M}
def pf:∀{c:List Int} {xs:List V},dA K H (c.map D.int) xs->xs=c.map V.int
 |[],_,h=>by cases h;rfl
 |n::c,_,h=>by
  rw[aQ]at h;cases h with
  |cons a b=>cases a;rw[pf b];rfl
def CJ:∀(a:List Int),dA K H (a.map D.int) (a.map V.int)
 |[]=>.nil
 |n::a=>.cons (.int n) (CJ a)
def NH:∀{k:K2} {xs:List V},dA K H (k.map WX) xs->cE (a0p H) k xs
 |[],_,h=>by cases h;exact .nil
 |a::k,_,h=>by
  rw[aQ]at h;cases h with
  |cons q r=>
   refine .cons ?_ (NH r);cases a with
   |inl i=>cases q;rfl
   |inr l=>
    cases q with
    |tup e b=>exact⟨_,rfl,by rw[pf b]at e;exact e⟩
def tR{d k v}(h:oZ d=Z_ k)(r:k_ K H d v):∃b,v=.ref b/\oT H k b:=by
 rw[Po h]at r;cases r with
 |tup e r=>exact⟨_,rfl,_,e,NH r⟩
def eF(a:List (K2×D))(k:K2):Option D:=(a.find? λb=>decide (b.1=k)).map (·.2)
def yf(a:List (K2×D))(k:K2)(v:D):List (K2×D):=if (a.any λb=>decide (b.1=k))=ZY then a.map λb=>if b.1=k then (b.1,v) else b else a++[(k,v)]
def mP(p:K2×D)(r:List (K2×D))(k:K2):eF (p::r) k=if p.1=k then Z_ p.2 else eF r k:=by unfold eF;by_cases h:p.1=k<;>simp[eL,h]
def vi{b c}(r:fL K H b c)(k:K2):(eF b k=ZZ/\vd c k=ZZ)\/∃d v,eF b k=Z_ d/\vd c k=Z_ v/\k_ K H d v:=by
 match r with
 |.nil=>exact .inl ⟨rfl,rfl⟩
 |.cons (p:=p) (q:=q) e a r=>
  rw[mP];by_cases h:p.1=k
  .rw[i0p h,Cu (by rwa[<-e])];exact .inr ⟨_,_,rfl,rfl,a⟩
  .rw[i0n h,Cv (by rwa[<-e])];exact vi r k
def QJ{b:List (K2×D)}{d:List (K2×V)}(r:fL K H b d)(k:K2):(b.any λc=>decide (c.1=k))=d.any λc=>decide (c.1=k):=by
 match r with
 |.nil=>rfl
 |.cons e a r=>rw[fm,fm,e,QJ r k]
def M6{c:List (K2×D)}{f:List (K2×V)}(r:fL K H c f)(k:K2){d v}(q:k_ K H d v):fL K H (c.map λb=>if b.1=k then (b.1,d) else b) (f.map λb=>if b.1=k then (b.1,v) else b):=by
 match r with
 |.nil=>exact .nil
 |.cons (p:=p) (q:=q') e a r=>
  rw[aQ,aQ];by_cases h:p.1=k
  .rw[i0p h,i0p (by rwa[<-e])];exact .cons e q (M6 r k q)
  .rw[i0n h,i0n (by rwa[<-e])];exact .cons e a (M6 r k q)
def QK{b c l d}(r:fL K H b c)(f:fL K H l d):fL K H (b++l) (c++d):=by
 match r with
 |.nil=>exact f
 |.cons e a r=>exact .cons e a (QK r f)
def M7{a b}(r:fL K H a b)(k:K2){d v}(q:k_ K H d v):fL K H (yf a k d) (uk b k v):=by
 unfold yf uk;rw[QJ r k];split
 .exact M6 r k q
 .exact QK r (.cons rfl q .nil)
def eK(m:M)(x:D):Option (List (K2×D)):=match x with
 |.dic b=>Z_ b
 |.ref a=>(match m a with
  |some (.dic b)=>Z_ b
  |_=>ZZ)
 |_=>ZZ
def A6{x v b}(h:eK m x=Z_ b)(r:k_ K H x v)(d:RM K m H):∃a c,v=.ref a/\Rd H a (.dT c)/\fL K H b c:=by
 cases x with
 |dic l=>cases r with|dic e r=>cases h;exact⟨_,_,rfl,.inr ⟨_,e⟩,r⟩
 |ref a=>
  cases r;cases hm:m a with
  |none=>simp[eK,hm]at h
  |some o=>
   cases o with
   |dic l=>simp only[eK,hm]at h;cases h;obtain⟨c,e,r⟩:=d a _ hm;exact⟨a,c,rfl,.inl e,r⟩
   |_=>simp[eK,hm]at h
 |_=>cases h
def ej(m:M)(x:D):Option (List D):=match x with
 |.lst l=>Z_ l
 |.ref a=>(match m a with
  |some (.lst l)=>Z_ l
  |_=>ZZ)
 |_=>ZZ
def se{x v l}(h:ej m x=Z_ l)(r:k_ K H x v)(b:RM K m H):∃a xs,v=.ref a/\Rd H a (.lst xs)/\dA K H l xs:=by
 cases x with
 |lst l=>cases r with|lst e r=>cases h;exact⟨_,_,rfl,.inr ⟨_,e⟩,r⟩
 |ref a=>
  cases r;cases hm:m a with
  |none=>simp[ej,hm]at h
  |some o=>
   cases o with
   |lst l=>simp only[ej,hm]at h;cases h;obtain⟨xs,e,r⟩:=b a _ hm;exact⟨a,xs,rfl,.inl e,r⟩
   |_=>simp[ej,hm]at h
 |_=>cases h
def Fq(x:D):Option (List D):=match x with
 |.tup l=>Z_ l
 |.mtup l=>Z_ l
 |_=>ZZ
def Ud{x v l}(h:Fq x=Z_ l)(r:k_ K H x v):∃a xs,v=.ref a/\oQ K H a xs/\dA K H l xs:=by
 cases x with
 |tup l=>cases r with|tup e r=>cases h;exact⟨_,_,rfl,oQ.of e,r⟩
 |mtup l=>cases r with|mtup e r=>cases h;exact⟨_,_,rfl,e.sq _,r⟩
 |_=>cases h
def nA:R3:=λx y m Q=>match x,y with
 |.int i,.int j=>Q (.int (i+j)) m
 |.tup l,.tup n=>if l.length+n.length<=10000 then Q (.tup (l++n)) m else False
 |x,y=>match ej m x,ej m y with
  |some l,Z_ n=>if l.length+n.length<=1000000 then Q (.lst (l++n)) m else False
  |_,_=>False
end
section
variable {X:Cx}
def r0.or4{f r e a g}(h:r0 X f r)(h':r0 X f e)(d:r0 X f a)(i:r0 X f g):r0 X f (λx y H Q=>r x y H Q\/e x y H Q\/a x y H Q\/g x y H Q):=by
 intro pins s σ H x y v u Q I b c q;rcases q with q|q|q|q
 .exact h pins s σ H x y v u Q I b c q
 .exact h' pins s σ H x y v u Q I b c q
 .exact d pins s σ H x y v u Q I b c q
 .exact i pins s σ H x y v u Q I b c q
def r0.fz{f r}(h:r0 X f r):r0 X f (λx y H Q=>r x y H (Fz Q)):=λpins s σ H x y v u Q I a b q=>jk (h pins s σ H x y v u _ I a b q) λu s1 ⟨v,H1,c,r,d⟩=>by obtain⟨e,g,i⟩:=d.run c;exact⟨v,e,g,r,i⟩
abbrev Ue(K:ab):R2:=λx y H Q=>(Td λi j=>.int (i+j)) x y H Q\/WR K x y H Q\/TK K x y H Q\/WV x y H (Fz Q)
def eR:r0 X (pL .Add) (Ue X.K):=r0.or4 XG VM TL (r0.fz W0)
nonrec def eS{K}:vg K nA (Ue K):=by
 intro x y v u m H A Q o q c h k;have lists:∀{l n:List D},ej m x=Z_ l->ej m y=Z_ n->(if l.length+n.length<=1000000 then A (.lst (l++n)) m else False)->Ue K v u H Q:=λ{l n} h1 r i=>by
  obtain⟨a,B,rfl,e,j⟩:=se h1 o c;obtain⟨b,C,rfl,f,d⟩:=se r q c;by_cases g:l.length+n.length<=1000000
  .rw[i0p g]at i;refine .inr (.inr (.inr ⟨a,b,B,C,rfl,rfl,e,f,?_,λp s=>HK s c (j.append d) k i⟩));rw[ko,<-j.length,<-d.length];lia
  .rw[i0n g]at i;exact i.elim
 unfold nA at h;split at h
 .cases o;cases q;exact .inl ⟨_,_,rfl,rfl,k _ _ m H (.int _) c (.refl H) h⟩
 .rename_i l n;cases o with
  |tup e j=>
   cases q with
   |tup f d=>
    by_cases g:l.length+n.length<=10000
    .rw[i0p g]at h;cases j with
     |nil=>exact .inr (.inr (.inl ⟨_,_,_,rfl,rfl,oQ.of e,oQ.of f,k _ _ m H (.tup f d) c (.refl H) h⟩))
     |cons t w=>
      refine .inr (.inl ⟨_,_,_,_,rfl,rfl,oQ.of e,oQ.of f,by simp,?_,λz=>?_,λz p s=>Hb s c ((dA.cons t w).append d) k h⟩)
      .rw[ko,<-(dA.cons t w).length,<-d.length];lia
      .subst z;cases d;rw[e9]at h;exact k _ _ m H (.tup e (.cons t w)) c (.refl H) h
    .rw[i0n g]at h;exact h.elim
 .split at h
  .rename_i l n h1 r;exact lists h1 r h
  .exact h.elim
def BD:R3:=λx y m Q=>match x,y with
 |.int i,.int j=>Q (.int (i-j)) m
 |_,_=>False
def Ym:R3:=λx y m Q=>match x,y with
 |.int i,.int j=>if -1000000000000000000<j/\j<1000000000000000000 then Q (.int (i*j)) m else False
 |_,_=>False
def Ug:R3:=λx y m Q=>match x,y with
 |.int i,.int j=>if 0<j/\j<1000000 then Q (.int (i / j)) m else False
 |_,_=>False
def Yn:R3:=λx y m Q=>match x,y with
 |.int i,.int j=>if 0<j then Q (.int (i%j)) m else False
 |_,_=>False
def lH{K}:vg K BD (Td λi j=>.int (i-j)):=by
 intro x y v u m H Q3 Q a b c h k;unfold BD at h;split at h
 .cases a;cases b;exact⟨_,_,rfl,rfl,k _ _ m H (.int _) c (.refl H) h⟩
 .exact h.elim
def W8{K}:vg K Ym (rI VC λi j=>.int (i*j)):=by
 intro x y v u m H Q3 Q a b c h k;unfold Ym at h;split at h
 .cases a;cases b;split at h
  .exact⟨_,_,rfl,rfl,.inr (by lia),k _ _ m H (.int _) c (.refl H) h⟩
  .exact h.elim
 .exact h.elim
nonrec def Uh{K}:vg K Ug (rI Zq λi j=>.int (i / j)):=by
 intro x y v u m H Q3 Q a b c h k;unfold Ug at h;split at h
 .cases a;cases b;split at h
  .rename_i d;exact⟨_,_,rfl,rfl,⟨d.1,by lia⟩,k _ _ m H (.int _) c (.refl H) h⟩
  .exact h.elim
 .exact h.elim
nonrec def W9{K}:vg K Yn (rI (λ_ j=>0<j) λi j=>.int (i%j)):=by
 intro x y v u m H Q3 Q a b c h k;unfold Yn at h;split at h
 .cases a;cases b;split at h
  .rename_i d;exact⟨_,_,rfl,rfl,d,k _ _ m H (.int _) c (.refl H) h⟩
  .exact h.elim
 .exact h.elim
def iB(a:jt):jt:=λσ m Q=>a σ m λx b=>match x with
 |.int i=>Q (.int (-i)) b
 |_=>False
def eD{a b c}(f:fH X a b):fH X (.UnaryOp .USub a c) (iB b):=
 weakE3 (Zo XJ f) λσ H Q σ3 m Q3 g j h k=>go (t:=b) g j h λx v l n o d e rs1 h1=>by
  cases x with
  |int i=>cases o;exact⟨i,rfl,k _ _ l n (.int _) d e h1⟩
  |_=>exact h1.elim
def jM(p:Int->Int->Bool):R3:=λx y m Q=>match x,y with
 |.int i,.int j=>Q (.bl (p i j)) m
 |_,_=>False
def de{K p}:vg K (jM p) (Td λi j=>.bl (p i j)):=by
 intro x y v u m H Q3 Q a b c h k;unfold jM at h;split at h
 .cases a;cases b;exact⟨_,_,rfl,rfl,k _ _ m H (.bl _) c (.refl H) h⟩
 .exact h.elim
def a0z:D->D->Option Bool
 |.int i,.int j=>Z_ (decide (i=j))
 |.str i,.str j=>Z_ (decide (i=j))
 |.non,.int _=>Z_ ZX
 |.int _,.non=>Z_ ZX
 |.non,.non=>Z_ ZY
 |.tup l,.tup n=>match jL l,jL n with
  |some a,Z_ b=>Z_ (decide (a=b))
  |_,_=>ZZ
 |_,_=>ZZ
def fEq(a:Bool):R3:=λx y m Q=>match a0z x y with
 |some b=>Q (.bl (if a then !b else b)) m
 |none=>False
def NI(x y:List Int):((bL (min x.length y.length)).all (λj=>decide (x[j]?=y[j]?))&&x.length==y.length)=decide (x=y):=by
 rw[bW];simp only[a_,cb,cT,decide_eq_true_eq,beq_iff_eq];constructor
 .rintro⟨h1,h2⟩;refine qb λj=>?_;by_cases hj:j<x.length
  .exact h1 j (by lia)
  .rw[cv (by lia),cv (by lia)]
 .rintro rfl;exact⟨λ_ _=>rfl,rfl⟩
def Fs{a:List Int}{us:List aq}(r:dC (a.map V.int) us):∀(j:Nat) (h:j<us.length),∃(i:Int) (t:Tok),a[j]?=Z_ i/\us[j]=.int i t:=by
 intro j h;have c:=r.length;rw[ah]at c;have b:j<a.length:=by lia
 have e:(a.map V.int)[j]?=Z_ (.int a[j]):=by simp[b]
 obtain⟨u,d,f⟩:=r.get e;obtain⟨t,rfl⟩:=(show ∃t,u=ue a[j] t from f)
 refine⟨a[j],t,by simp[b],?_⟩;have:=aj h;rw[d]at this;exact (az this).symm
def ZP:R2:=λx y H Q=>∃a b c d,x=.ref a/\y=.ref b/\lX H a c/\lX H b d/\Q (.bl (decide (c=d))) H
def Yo(hu:X.A.units+64<gv):r0 X (fo .Eq) ZP:=by
 intro pins s σ H x y v u Q I w B h;obtain⟨a,b,f,g,rfl,rfl,C,D,q⟩:=h;cases w;cases B;obtain⟨d,k,E,_⟩:=I.tuple (oQ.of (K:=X.K) C);obtain⟨c,l,F,_⟩:=I.tuple (oQ.of (K:=X.K) D);have n:=k.length;have o:=l.length;rw[ah]at n o;refine SeqAt.eq_tupleAt (e:=λj=>decide (f[j]?=g[j]?)) (show s.heap.IsTuple a d.toArray from E) (show s.heap.IsTuple b c.toArray from F) (by lia) (λj h1 p=>?_) ?_
 .obtain⟨i,t,G,J⟩:=Fs k j (by simpa using h1);obtain⟨r,L,N,O⟩:=Fs l j (by simpa using p);have z:=Br (A:=X.A.in1) (s:=s) i t r L;have P:decide (f[j]?=g[j]?)=(i==r):=by rw[G,N,bW];simp
  show dg X.A.in1 s d.toArray[j] c.toArray[j] (decide (f[j]?=g[j]?));rw[P];have R:d.toArray[j]=d[j]'(by simpa using h1):=by simp
  have S:c.toArray[j]=c[j]'(by simpa using p):=by simp
  rwa[R,S,J,O]
 .have e:((bL (min d.toArray.size c.toArray.size)).all (λj=>decide (f[j]?=g[j]?))&&d.toArray.size==c.toArray.size)=decide (f=g):=by
   rw[br,br,<-n,<-o];exact NI f g
  rw[e];exact⟨.bl _,H,I,rfl,q⟩
abbrev Wa(a:Bool):R2:=λx y H Q=>(if a then a1I x y H Q else a1H x y H Q)\/(a=ZX/\ZP x y H Q)
def ik(c:X.A.units+64<gv):r0 X (fo .Eq) (Wa ZX):=by
 intro pins s σ H x y v u Q I a b q;rcases q with q|⟨_,q⟩
 .exact Zs pins s σ H x y v u Q I a b q
 .exact Yo c pins s σ H x y v u Q I a b q
def M8:r0 X (fo .NotEq) (Wa ZY):=by
 intro pins s σ H x y v u Q I a b q;rcases q with q|⟨z,q⟩
 .exact Zt pins s σ H x y v u Q I a b q
 .cases z
def qi:R3:=λx y m Q=>match a0z x y with
 |some b=>Q (.bl b) m
 |none=>False
def RZ:R3:=λx y m Q=>match x,y with
 |.int i,.int j=>Q (.bl (!decide (i=j))) m
 |_,_=>False
def ZQ(i j:Int):decide (V.int i=V.int j)=decide (i=j):=by simp only[V.int.injEq]
def a1n(i j:Str):decide (V.str i=V.str j)=decide (i=j):=by simp only[V.str.injEq]
nonrec def il{K}:vg K qi (Wa ZX):=by
 intro x y v u m H Q3 Q e f g h k;unfold qi at h;cases d:a0z x y with
 |none=>rw[d]at h;exact h.elim
 |some b=>
  rw[d]at h;unfold a0z at d;split at d
  .cases d;cases e;cases f;refine .inl ⟨rfl,?_⟩;rw[ZQ];exact k _ _ m H (.bl _) g (.refl H) h
  .cases d;cases e;cases f;refine .inl ⟨rfl,?_⟩;rw[a1n];exact k _ _ m H (.bl _) g (.refl H) h
  .cases d;cases e;cases f;refine .inl ⟨rfl,?_⟩;rw[decide_eq_false (λz=>nomatch z)];exact k _ _ m H (.bl _) g (.refl H) h
  .cases d;cases e;cases f;refine .inl ⟨rfl,?_⟩;rw[decide_eq_false (λz=>nomatch z)];exact k _ _ m H (.bl _) g (.refl H) h
  .cases d;cases e;cases f;exact .inl ⟨rfl,k _ _ m H (.bl _) g (.refl H) h⟩
  .rename_i l n;cases h1:jL l with
   |none=>rw[h1]at d;cases d
   |some a=>
    cases i:jL n with
    |none=>rw[h1,i]at d;cases d
    |some c=>
     rw[h1,i]at d;cases d;cases e with
     |tup j o=>
      cases f with
      |tup p q=>rw[ni h1]at o;rw[ni i]at q;rw[pf o]at j;rw[pf q]at p;exact .inr ⟨rfl,_,_,a,c,rfl,rfl,j,p,k _ _ m H (.bl _) g (.refl H) h⟩
  .cases d
def M9{K}:vg K RZ (Wa ZY):=by
 intro x y v u m H Q3 Q a b c h k;unfold RZ at h;split at h
 .cases a;cases b;refine .inl ⟨rfl,?_⟩;rw[ZQ];exact k _ _ m H (.bl _) c (.refl H) h
 .exact h.elim
def lS:D->Option V
 |.non=>Z_ .non
 |.int i=>Z_ (.int i)
 |_=>ZZ
def Pp:D->D->Bool
 |.non,.non=>ZY
 |.int i,.int j=>i==j
 |_,_=>ZX
def Ui(a:Bool):R3:=λx y m Q=>match eK m y with
 |some b=>(match oZ x with
  |some k=>Q (.bl (if a then !(eF b k).isSome else (eF b k).isSome)) m
  |none=>False)
 |none=>(match ej m y with
  |some l=>if (lS x).isSome=ZY/\(l.all λd=>(lS d).isSome)=ZY then Q (.bl (if a then !(l.any λz=>Pp z x) else l.any λz=>Pp z x)) m else False
  |none=>False)
def CK{K H d v}(h:(lS d).isSome=ZY)(r:k_ K H d v):lS d=Z_ v/\rW v=ZY:=by
 cases d with
 |non=>cases r;exact⟨rfl,rfl⟩
 |int i=>cases r;exact⟨rfl,rfl⟩
 |_=>cases h
def Ma{K H x y v u}(h:(lS x).isSome=ZY)(h':(lS y).isSome=ZY)(r:k_ K H x v)(a:k_ K H y u):SX v u=Pp x y:=by
 cases x with
 |non=>cases r;cases y with
  |non=>cases a;rfl
  |int j=>cases a;rfl
  |_=>cases h'
 |int i=>cases r;cases y with
  |non=>cases a;rfl
  |int j=>cases a;rfl
  |_=>cases h'
 |_=>cases h
def QL{K H x v}(b:(lS x).isSome=ZY)(c:k_ K H x v):∀{l:List D} {xs:List V},dA K H l xs->(l.all λd=>(lS d).isSome)=ZY->a0x v xs=(l.any λz=>Pp z x)/\xs.all rW=ZY:=by
 intro l xs r0 h;induction l generalizing xs with
 |nil=>cases r0;exact⟨rfl,rfl⟩
 |cons d l e=>cases r0 with
  |cons a r=>
   rw[eO,a_]at h;obtain⟨h1,f⟩:=e r h.2;refine⟨?_,?_⟩
   .show (SX _ v||a0x v _)=_;rw[h1,Ma h.1 b a c];rfl
   .rw[eO,f,(CK h.1 a).2];rfl
abbrev Yp(K:ab)(b:Bool):R2:=λx y H Q=>(∃a o,y=.ref a/\E1 H a x o/\Q (.bl (if b then !o.isSome else o.isSome)) H)\/a0Z K b x y H Q
def Yq(a:X.A.units+64<gv):r0 X (fo .In) (Yp X.K ZX):=r0.or (Yd a) RC
def nj(a:X.A.units+64<gv):r0 X (fo .NotIn) (Yp X.K ZY):=r0.or (RR a) LU
nonrec def wj{K}{c:Bool}:vg K (Ui c) (Yp K c):=by
 intro x y v u m H Q3 Q i w g h k;unfold Ui at h;cases j:eK m y with
 |some n=>
  rw[j]at h;cases o:oZ x with
  |none=>rw[o]at h;exact h.elim
  |some f=>
   rw[o]at h;obtain⟨a,p,rfl,e,r⟩:=A6 j w g;obtain⟨b,rfl,A⟩:=tR o i;refine .inl ⟨a,vd p f,rfl,.inr ⟨p,f,b,e,rfl,A,rfl⟩,?_⟩;have z:(vd p f).isSome=(eF n f).isSome:=by
    rcases vi r f with⟨h1,q⟩|⟨d,v,h1,q,_⟩
    .rw[h1,q];rfl
    .rw[h1,q];rfl
   rw[z];exact k _ _ m H (.bl _) g (.refl H) h
 |none=>
  rw[j]at h;cases s:ej m y with
  |none=>rw[s]at h;exact h.elim
  |some l=>
   rw[s]at h;simp only at h;split at h
   .rename_i t;obtain⟨a,B,rfl,e,r⟩:=se s w g;obtain⟨C,D⟩:=QL t.1 i r t.2;refine .inr ⟨a,B,rfl,.inl (.inl e),(CK t.1 i).2,D,?_⟩;rw[C];exact k _ _ m H (.bl _) g (.refl H) h
   .exact h.elim
end
section
variable {X:Cx}
def Wb(e:X.A.units+64<gv):Vr X (λx y H Q=>∃a v,x=.ref a/\E1 H a y (Z_ v)/\Q v H):=by
 intro value slice pins s σ H x y v u Q I f i h j;obtain⟨a,z,rfl,g,q⟩:=h;obtain rfl:v=bp a:=f;have d:=Nn I g;unfold JB;refine aa ?_;rw[getitemInPython_of_ne d.not_modules];refine aa (qa d PySem.F.slot_dict_getitem.lookup ?_);have b:bf (bI X.prog X.w) X.A (subscripted slice ZX (.ref a) u) (λr s₃=>bf (bI X.prog X.w) X.A (letTemporaryGo value (.ref a) r >>= λ_=>pure r) (EP X pins σ Q) X.xe s₃) X.xe s:=by rw[j];exact wpAny_operating (RF e I g i λw' s3 k c=>aa (wpAny_letTemporaryGo (aD ⟨z,H,k,c,q⟩)))
 first
  |exact aD (aa b)
  |exact aa (aD (aa b))
  |exact aa b
def fZ:R3:=λx y m Q=>match eK m x with
 |some a=>(match oZ y with
  |some k=>(match eF a k with
   |some d=>Q d m
   |none=>False)
  |none=>False)
 |none=>(match (match Fq x with|some l=>Z_ l|none=>ej m x),y with
  |some l,.int i=>(match tL l i with
   |some d=>Q d m
   |none=>False)
  |_,_=>False)
abbrev ZR(K:ab):R2:=λx y H Q=>(∃a v,x=.ref a/\E1 H a y (Z_ v)/\Q v H)\/ZC K x y H Q\/ZD K x y H Q
def ix3(a:X.A.units+64<gv):Vr X (ZR X.K):=(Wb a).or (VN.or XR)
def QM{K H l xs}{i:Int}{d}(r:dA K H l xs)(h:tL l i=Z_ d):∃v,tL xs i=Z_ v/\k_ K H d v:=by
 unfold tL at h ⊢;rw[r.length]at h;cases a:SW xs.length i with
 |none=>rw[a]at h;cases h
 |some j=>rw[a]at h;exact r.get h
def Yr{K}:vg K fZ (ZR K):=by
 intro x y v u m H Q3 Q j n g h k;unfold fZ at h;cases o:eK m x with
 |some p=>
  rw[o]at h;cases q:oZ y with
  |none=>rw[q]at h;exact h.elim
  |some s=>
   rw[q]at h;cases c:eF p s with
   |none=>simp only[c]at h
   |some d=>
    simp only[c]at h;obtain⟨a,C,rfl,e,r⟩:=A6 o j g;obtain⟨b,rfl,D⟩:=tR q n;rcases vi r s with⟨h1,B⟩|⟨d',v,h1,B,E⟩
    .rw[h1]at c;cases c
    .rw[h1]at c;cases c;exact .inl ⟨a,v,rfl,.inr ⟨C,s,b,e,rfl,D,B.symm⟩,k _ _ m H E g (.refl H) h⟩
 |none=>
  rw[o]at h;cases t:Fq x with
  |some l=>
   rw[t]at h;cases y with
   |int i=>
    cases n;cases f:tL l i with
    |none=>simp only[f]at h
    |some d=>simp only[f]at h;obtain⟨a,w,rfl,e,r⟩:=Ud t j;obtain⟨v,z,A⟩:=QM r f;exact .inr (.inr ⟨a,w,i,v,rfl,rfl,e,z,k _ _ m H A g (.refl H) h⟩)
   |_=>exact h.elim
  |none=>
   rw[t]at h;cases c:ej m x with
   |none=>simp only[c]at h
   |some l=>
    simp only[c]at h;cases y with
    |int i=>
     cases n;cases f:tL l i with
     |none=>simp only[f]at h
     |some d=>simp only[f]at h;obtain⟨a,w,rfl,e,r⟩:=se c j g;obtain⟨v,z,A⟩:=QM r f;exact .inr (.inl ⟨a,w,i,v,rfl,rfl,.inl e,z,k _ _ m H A g (.refl H) h⟩)
    |_=>exact h.elim
def Ys{a b d e f}(n:X.A.units+64<gv)(o:fH X a d)(p:fH X b e)(hs:6<|GT b):fH X (.Subscript a b f) (bj fZ d e):=
 weakE3 (WS (ix3 n) o p hs) λσ H Q σ3 m q r s h k=>go (t:=d) r s h λx v m1 H1 w g i j h1=>go (t:=e) j g h1 λy u z B C l c rs2 D=>Yr x y v u z B q Q (w.mono c) C l D (k.le (i.trans c))
def E8(l:List D)(i j:Int):List D:=(l.drop (min i.toNat l.length)).take (min j.toNat l.length-min i.toNat l.length)
def Wc(te b c:jt):jt:=λσ m Q=>te σ m λx d=>b σ d λy e=>match y with
 |.int i=>c σ e λz a=>(match ej a x,z with
  |some l,.int j=>if 0<=i/\0<=j then Q (.lst (E8 l i j)) a else False
  |_,_=>False)
 |_=>False
def Uj{n:Nat}{d:Nat}{i:Int}(h:0<=i):HT.sIx n d (Z_ i)=min i.toNat n:=by
 obtain⟨k,rfl⟩:∃k:Nat,i=(k:Int):=⟨i.toNat,by lia⟩
 rw[HT.sIx_nat];rfl
def Z0.fz{r}(h:Z0 X r):Z0 X (λx lo d H Q=>r x lo d H (Fz Q)):=by intro pins s σ H x v e f lo d g Q I i j k l q;obtain⟨T,id,a,b,c⟩:=h pins s σ H x v e f lo d g _ I i j k l q;refine⟨T,id,a,b,jk c λu s1 ⟨v,H1,m,r,n⟩=>?_⟩;obtain⟨o,p,t⟩:=n.run m;exact⟨v,o,p,r,t⟩
nonrec def E9{e a b te o q s J}(he:fH X e te)(L:fH X a o)(M:fH X b q):fH X (.Subscript e (.Slice (Z_ a) (Z_ b) ZZ J) s) (Wc te o q):=
 weakE3 (Tp (Z0.fz VO) he (Qp L) (Qp M)) λσ H Q σ3 m Q3 N O h k=>go (t:=te) N O h λx v m1 H1 P A B C h1=>go (t:=o) C A h1 λy u m2 H2 R D d E G=>by
  cases y with
  |int i=>
   cases R;refine⟨i,rfl,go (t:=q) E D G λz w S T U f g rs3 c=>?_⟩;cases F:ej S x with
   |none=>simp only[F]at c
   |some l=>
    simp only[F]at c;cases z with
    |int j=>
     cases U;simp only at c;split at c
     .rename_i n;obtain⟨V,I,rfl,e,r⟩:=se F ((P.mono d).mono g) f;refine⟨j,rfl,V,I,rfl,.inl e,λp W=>?_⟩;have Y:dA X.K T (E8 l i j) (RB I (Z_ i) (Z_ j)):=by
       unfold E8 RB;rw[Uj n.1,Uj n.2,r.length];exact (r.drop _).take _
      exact HK W f Y (k.le ((B.trans d).trans g)) c
     .exact c.elim
    |_=>exact c.elim
  |_=>exact G.elim
end
abbrev QN:=List D->M->qE->Prop
def nG(K:ab)(r3:QN)(r2:List V->Hp->VK->Prop):Prop:=∀a b m H c Q,dA K H a b->RM K m H->r3 a m c->L_ K H c Q->r2 b H Q
def dG(r:QN)(t:Cz):jt:=λσ m Q=>t σ m λa b=>r a b Q
def yI(m:M)(x:D):Option (List D):=match Fq x with
 |some l=>Z_ l
 |none=>ej m x
nonrec def Yt{K m H x v l}(h:yI m x=Z_ l)(r:k_ K H x v)(d:RM K m H):∃a xs,v=.ref a/\(ny K H a xs\/oQ K H a xs)/\dA K H l xs:=by
 unfold yI at h;split at h
 .rename_i l' e;cases h;obtain⟨a,xs,h1,b,c⟩:=Ud e r;exact⟨a,xs,h1,.inr b,c⟩
 .obtain⟨a,xs,h1,b,c⟩:=se h r d;exact⟨a,xs,h1,.inl (.inl b),c⟩
section
variable {X:Cx} {e:ck} {es:List ck} {x:Str} {tr:Cz} {p pos:Pos} {id T:String} {r2:List V->Hp->VK->Prop} {r3:QN}
def kr.fz{f}(h:kr X f r2):kr X f (λvs H Q=>r2 vs H (Fz Q)):=λpins s σ H a b Q I r q=>jk (h pins s σ H a b _ I r q) λu s1 ⟨v,H1,c,r,d⟩=>by obtain⟨g,i,j⟩:=d.run c;exact⟨v,g,i,r,j⟩
def rO(g:kr X (.builtin id) r2)(a:nG X.K r3 r2)(i:Gl X x)(hm:X.mg x=ZZ)(j:oN x=Z_ (.builtin id))(l:Ge X (e::es) tr)(n:2<|x≠"__name__")(b:2<|(x==("__debug__":Str))=ZX)
  (he:1<|aU (e::es) X.env=(ZX,dh e X.env)::aU es X.env)(c:1<|(gU pos (aU es X.env)).any (·.1)=ZX):fH X (.Call (.Name x p) (e::es) [] pos) (dG r3 tr):=
 weakE3 (To g i hm j l n b he c) λσ H Q σ3 m o q r h k=>SY (t:=tr) q r h λs u v w y d f rs1 h1=>a s u v w o Q y d h1 (k.le f)
def wk(g:kr X (.type T) r2)(a:nG X.K r3 r2)(i:Gl X x)(hm:X.mg x=ZZ)(j:oN x=Z_ (.type T))(l:Ge X (e::es) tr)(n:2<|x≠"__name__")(b:2<|(x==("__debug__":Str))=ZX)
  (he:1<|aU (e::es) X.env=(ZX,dh e X.env)::aU es X.env)(c:1<|(gU pos (aU es X.env)).any (·.1)=ZX):fH X (.Call (.Name x p) (e::es) [] pos) (dG r3 tr):=
 weakE3 (RA g i hm j l n b he c) λσ H Q σ3 m o q r h k=>SY (t:=tr) q r h λs u v w y d f rs1 h1=>a s u v w o Q y d h1 (k.le f)
end
def NJ(g:List D->M->qE->Prop):QN:=λa m Q=>match a with
 |[x]=>(match yI m x with
  |some l=>g l m Q
  |none=>False)
 |_=>False
def KA(g:List D->M->qE->Prop):QN:=λa m Q=>match a with
 |[x]=>(match ej m x with
  |some l=>g l m Q
  |none=>False)
 |_=>False
nonrec def HR{K g ds vs m H Q3}(c:dA K H ds vs)(d:RM K m H)(h:NJ g ds m Q3):∃a l xs,vs=[.ref a]/\(ny K H a xs\/oQ K H a xs)/\dA K H l xs/\g l m Q3:=by
 unfold NJ at h;split at h
 .rename_i x;cases c with
  |cons r f=>
   cases f;cases b:yI m x with
   |none=>rw[b]at h;exact h.elim
   |some l=>rw[b]at h;obtain⟨a,xs,rfl,i,j⟩:=Yt b r d;exact⟨a,l,xs,rfl,i,j,h⟩
 .exact h.elim
nonrec def CL{K g ds vs m H Q3}(c:dA K H ds vs)(d:RM K m H)(h:KA g ds m Q3):∃a l xs,vs=[.ref a]/\Rd H a (.lst xs)/\dA K H l xs/\g l m Q3:=by
 unfold KA at h;split at h
 .rename_i x;cases c with
  |cons r f=>
   cases f;cases b:ej m x with
   |none=>rw[b]at h;exact h.elim
   |some l=>rw[b]at h;obtain⟨a,xs,rfl,i,j⟩:=se b r d;exact⟨a,l,xs,rfl,i,j,h⟩
 .exact h.elim
def ie:QN:=NJ λl m Q=>Q (.int l.length) m
def Wd{K}:nG K ie (λxs H Q=>∃p b,xs=[.ref p]/\(ny K H p b\/oQ K H p b)/\Q (.int b.length) H):=by intro ds vs m H Q3 Q d c h k;obtain⟨a,l,xs,rfl,f,g,i⟩:=HR d c h;refine⟨a,xs,rfl,f,?_⟩;rw[<-g.length];exact k _ _ m H (.int _) c (.refl H) i
def KB:QN:=NJ λl m Q=>Q (.lst l) m
def Pq:QN:=NJ λl m Q=>∀p,m p=ZZ->Q (.ref p) (bQ m p (.lst l))
abbrev X3(K:ab):List V->Hp->VK->Prop:=λb H Q=>∃p a,b=[.ref p]/\(ny K H p a\/oQ K H p a)/\∀l,H l=ZZ->Q (.ref l) (gw H l (.lst a))
def R_{K}:nG K KB (λxs H Q=>X3 K xs H (Fz Q)):=by intro ds vs m H Q3 Q c b h k;obtain⟨a,l,xs,rfl,d,f,g⟩:=HR c b h;exact⟨a,xs,rfl,d,λp i=>HK i b f k g⟩
def S0{K}:nG K Pq (X3 K):=by intro ds vs m H Q3 Q d b h k;obtain⟨a,l,f,rfl,g,i,j⟩:=HR d b h;exact⟨a,f,rfl,g,λp c=>QD c b i k (j p (b.free c))⟩
def nH:QN:=λb m Q=>match b with
 |[.tup l]=>Q (.tup l) m
 |[.dic a]=>Q (.tup (a.map λp=>kD p.1)) m
 |[x]=>(match ej m x with
  |some l=>Q (.tup l) m
  |none=>False)
 |_=>False
abbrev QO(K:ab):List V->Hp->VK->Prop:=λb H Q=>∃p a,b=[.ref p]/\((ny K H p a/\∀l,H l=ZZ->Q (.ref l) (gw H l (.tup a)))\/(oQ K H p a/\Q (.ref p) H))
abbrev QP:List V->Hp->VK->Prop:=λc H Q=>∃d o a,c=[.ref d]/\H d=Z_ (.frz o (.dT a))/\∀(b:List ak) (l:ak),cE (λ(f:K2×V) q=>oT H f.1 q) a b->H l=ZZ->Q (.ref l) (gw H l (.tup (b.map V.ref)))
def kr.or{X f r a}(h:kr X f r)(h':kr X f a):kr X f (λxs H Q=>r xs H Q\/a xs H Q):=by
 intro pins s σ H xs b Q I c q;rcases q with q|q
 .exact h pins s σ H xs b Q I c q
 .exact h' pins s σ H xs b Q I c q
def NK{X:Cx}(a:X.calm=ZY):kr X (.type "tuple") (λxs H Q=>QO X.K xs H Q\/QP xs H Q):=kr.or JE (Nv a)
def KC{K H}:∀{b:List (K2×D)} {c:List (K2×V)} {as:List ak},fL K H b c->cE (λ(d:K2×V) q=>oT H d.1 q) c as->dA K H (b.map λp=>kD p.1) (as.map V.ref):=by
 intro b c as h g;induction b generalizing c as with
 |nil=>cases h;cases g;exact .nil
 |cons p l f=>cases h with
  |cons e a r=>cases g with
   |cons q t=>exact .cons (by show k_ K H (kD _) _;rw[e];exact U6 q) (f r t)
nonrec def S1{K}:nG K nH (λxs H Q=>QO K xs H Q\/QP xs H Q):=by
 intro ds vs m H Q3 Q f d h k;unfold nH at h;split at h
 .rename_i l;cases f with
  |cons r b=>
   cases b;cases r with
   |tup e q=>exact .inl ⟨_,_,rfl,.inr ⟨oQ.of e,k _ _ m H (.tup e q) d (.refl H) h⟩⟩
 .rename_i kvs;cases f with
  |cons r b=>
   cases b;cases r with
   |dic e q=>exact .inr ⟨_,_,_,rfl,e,λks l g c=>Hb c d (KC q g) k h⟩
 .rename_i x _ _;cases f with
  |cons r b=>
   cases b;cases c:ej m x with
   |none=>rw[c]at h;exact h.elim
   |some l=>rw[c]at h;obtain⟨a,xs,rfl,i,j⟩:=se c r d;exact .inl ⟨a,xs,rfl,.inl ⟨.inl i,λp g=>Hb g d j k h⟩⟩
 .exact h.elim
def tS:List D->Option (List Bool)
 |[]=>Z_ []
 |.bl b::r=>(tS r).map (b::·)
 |_::_=>ZZ
def lg(l:List Bool):tS (l.map D.bl)=Z_ l:=by
 induction l with
 |nil=>rfl
 |cons b r a=>simp[tS,a]
def HS{K H}:∀{l:List D} {c:List Bool} {xs:List V},tS l=Z_ c->dA K H l xs->xs=c.map V.bl:=by
 intro l;induction l with
 |nil=>intro c xs h g;cases g;cases h;rfl
 |cons d l i=>
  intro c xs h g;cases g with
  |cons a r=>
   cases d with
   |bl b=>
    cases a;simp only[tS]at h;cases f:tS l with
    |none=>rw[f]at h;cases h
    |some t=>rw[f]at h;cases h;rw[i f r];rfl
   |_=>cases h
def uo(f:List Bool->Bool):QN:=KA λl m Q=>match tS l with
 |some a=>Q (.bl (f a)) m
 |none=>False
def KD{K f}:nG K (uo f) (λvs H Q=>∃(a:ak) (b:List Bool),vs=[V.ref a]/\ny K H a (b.map V.bl)/\Q (.bl (f b)) H):=by
 intro ds vs m H Q3 Q i g h k;obtain⟨a,l,xs,rfl,j,n,c⟩:=CL i g h;cases d:tS l with
 |none=>rw[d]at c;exact c.elim
 |some b=>rw[d]at c;have e:=HS d n;subst e;exact⟨a,b,rfl,.inl j,k _ _ m H (.bl _) g (.refl H) c⟩
def Yu:QN:=KA λl m Q=>match jL l with
 |some a=>Q (.int a.sum) m
 |none=>False
def We{K}:nG K Yu (ZF K):=by
 intro ds vs m H Q3 Q g d h k;obtain⟨a,l,xs,rfl,i,f,b⟩:=CL g d h;cases c:jL l with
 |none=>rw[c]at b;exact b.elim
 |some j=>rw[c]at b;rw[ni c]at f;have e:=pf f;subst e;exact⟨a,j,rfl,.inl i,k _ _ m H (.int _) d (.refl H) b⟩
def Yv:QN:=KA λl m Q=>match jL l with
 |some a=>0<a.length/\∀x,x∈a->(∀y,y∈a->y<=x)->Q (.int x) m
 |none=>False
def Wf{K}:nG K Yv (ZG K):=by
 intro ds vs m H Q3 Q g d h k;obtain⟨a,l,xs,rfl,i,f,b⟩:=CL g d h;cases c:jL l with
 |none=>rw[c]at b;exact b.elim
 |some j=>rw[c]at b;rw[ni c]at f;have e:=pf f;subst e;exact⟨a,j,rfl,.inl i,b.1,λx n hm=>k _ _ m H (.int _) d (.refl H) (b.2 x n hm)⟩
def Ea(a:List Int):D:=.tup (a.map D.int)
def JJ(m:M)(x:D):Option (List D):=match x with
 |.tup l=>Z_ l
 |_=>ej m x
def X4{K m H x v l}(h:JJ m x=Z_ l)(r:k_ K H x v)(b:RM K m H):∃a xs,v=.ref a/\(Rd H a (.lst xs)\/Rd H a (.tup xs))/\dA K H l xs:=by
 cases x with
 |tup l'=>
  cases h;cases r with
  |tup e q=>exact⟨_,_,rfl,.inr (.inl e),q⟩
 |_=>unfold JJ at h;obtain⟨a,xs,h1,c,d⟩:=se h r b;exact⟨a,xs,h1,.inl c,d⟩
def CM:QN:=λf m Q=>match f with
 |[x]=>(match JJ m x with
  |some l=>∃d:List (List Int),l=d.map Ea/\((∀g∈d,g≠[])\/d.length<=1) /\
   ∀c:List (List Int),c.Perm d->c.Pairwise (λa b=>LY b a=ZX)->Q (.lst (c.map Ea)) m
  |none=>False)
 |_=>False
def KF{K H}:∀{b:List (List Int)} {xs:List V},dA K H (b.map Ea) xs->∃ps,xs=ps.map V.ref/\cE (lX H) ps b
 |[],_,.nil=>⟨[],rfl,.nil⟩
 |ns::b,_,.cons a r=>by
  obtain⟨ps,e,q⟩:=KF r;subst e;cases a with
  |tup c r2=>rw[pf r2]at c;exact⟨_::ps,rfl,.cons c q⟩
def KG{K H}:∀{a:List (List Int)} {ps:List ak},cE (lX H) ps a->dA K H (a.map Ea) (ps.map V.ref)
 |_,_,.nil=>.nil
 |_,_,.cons q r=>.cons (.tup q (CJ _)) (KG r)
nonrec def Pr{K}:nG K CM (λvs H Q=>Ny vs H (Fz Q)):=by
 intro ds vs m H Q3 Q n j h k;unfold CM at h;split at h
 .rename_i x;cases d:JJ m x with
  |none=>rw[d]at h;exact h.elim
  |some l=>
   rw[d]at h;obtain⟨f,e,g,o⟩:=h;subst e;cases n with
   |cons r q=>cases q;obtain⟨a,xs,rfl,s,t⟩:=X4 d r j;obtain⟨u,rfl,v⟩:=KF t;exact⟨a,u,f,rfl,s,v,g,λps' c p w b i y=>HK y j (KG w) k (o c b i)⟩
 .exact h.elim
def Mb:D->Option (K2×D)
 |.tup [x,y]=>(oZ x).map λk=>(k,y)
 |_=>ZZ
def qj:List D->Option (List (K2×D))
 |[]=>Z_ []
 |d::r=>match Mb d,qj r with
  |some p,Z_ q=>Z_ (p::q)
  |_,_=>ZZ
def Eb(a more:List (K2×D)):List (K2×D):=more.foldl (λb c=>yf b c.1 c.2) a
def Pt:QN:=KA λl m Q=>match qj l with
 |some a=>∀p,m p=ZZ->Q (.ref p) (bQ m p (.dic (Eb [] a)))
 |none=>False
nonrec def HU{K H}:∀{l:List D} {f:List (K2×D)} {xs:List V},qj l=Z_ f->dA K H l xs->∃ps g,xs=ps.map V.ref/\cE (λp (m:K2×V)=>∃b,H p=Z_ (.tup [.ref b,m.2])/\oT H m.1 b) ps g/\fL K H f g
 |[],f,_,h,.nil=>by cases h;exact⟨[],[],rfl,.nil,.nil⟩
 |d::l,f,_,h,.cons a r=>by
  simp only[qj]at h;cases c:Mb d with
  |none=>rw[c]at h;cases h
  |some p=>
   cases i:qj l with
   |none=>rw[c,i]at h;cases h
   |some q=>
    rw[c,i]at h;cases h;obtain⟨ps,g,n,o,s⟩:=HU i r;subst n;unfold Mb at c;split at c
    .rename_i x y;cases j:oZ x with
     |none=>rw[j]at c;cases c
     |some k=>
      rw[j]at c;cases c;cases a with
      |tup e r=>
       cases r with
       |cons t r=>
        cases r with
        |cons r2 r=>cases r;obtain⟨b,rfl,u⟩:=tR j t;exact⟨_::ps,(k,_)::g,rfl,.cons ⟨b,e,u⟩ o,.cons rfl r2 s⟩
    .cases c
def KH{K H}:∀{c b:List (K2×D)} {ps d:List (K2×V)},fL K H c ps->fL K H b d->fL K H (Eb b c) (we d ps):=by
 intro c b ps d h s;induction c generalizing b ps d with
 |nil=>cases h;exact s
 |cons p l f=>cases h with
  |@cons _ q _ _ e a r=>
   have z:=M7 s p.1 a;have g:fL K H (yf b p.1 p.2) (uk d q.1 q.2):=by rwa[<-e]
   have i:=f r g;exact i
def QQ{K m H p b a Q3 Q}(c:H p=ZZ)(d:RM K m H)(r:fL K H a b)(k:L_ K H Q3 Q)(q:Q3 (.ref p) (bQ m p (.dic a))):Q (.ref p) (gw H p (.dT b)):=by have le:=rX (o:=.dT b) c;exact k _ _ _ _ (.ref p) (d.lay (w:=.dic a) c ⟨b,eT,r.mono le⟩) le q
def Uk{K}:nG K Pt (λxs H Q=>∃(a:ak) (ps:List ak) (c:List (K2×V)),xs=[.ref a]/\Rd H a (.lst (ps.map V.ref))/\cE (λp (i:K2×V)=>∃b,H p=Z_ (.tup [.ref b,i.2])/\oT H i.1 b) ps c /\
  ∀p,H p=ZZ->Q (.ref p) (gw H p (.dT (we [] c)))):=by
 intro ds vs m H Q3 Q n f h k;obtain⟨a,l,xs,rfl,o,q,d⟩:=CL n f h;cases g:qj l with
 |none=>rw[g]at d;exact d.elim
 |some prs=>rw[g]at d;obtain⟨ps,c,rfl,r,s⟩:=HU g q;exact⟨a,ps,c,rfl,o,r,λp j=>QQ j f (KH s .nil) k (d p (f.free j))⟩
section
variable {X:Cx} {o e e2 i value:ck} {es:List ck} {to te te2 ti tv:jt} {apos cpos pos pos':Pos}
def mj(r:ak->List D->D->M->qE->Prop)(to te:jt):jt:=λσ m Q=>to σ m λx b=>match x with
 |.ref a=>(match b a with
  |some (.lst _)=>te σ b λy c=>(match c a with
   |some (.lst l)=>r a l y c Q
   |_=>False)
  |_=>False)
 |_=>False
nonrec def Ul{w r}(f:∀a l y u m H Q3 Q,m a=Z_ (.lst l)->k_ X.K H y u->RM X.K m H->r a l y m Q3->L_ X.K H Q3 Q->w (.ref a) [u] H Q){σ H Q σ3 m Q3}
  (A:RS X.K H σ3 σ)(B:RM X.K m H)(h:mj r to te σ3 m Q3)(k:L_ X.K H Q3 Q):a1M X.K "list" w (NA X.K to) (TY X.K (af te aH)) σ H Q:=
 go (t:=to) A B h λx v m1 H1 C b g j h1=>by
  cases x with
  |ref a=>
   cases C;simp only at h1;split at h1
   .rename_i l e;obtain⟨E,F,e2⟩:=b a _ e;refine⟨.inl ⟨rfl,E,ny.of F⟩,?_⟩;refine SY (t:=af te aH) (Q3:=λz d=>match z with
     |[y]=>(match d a with
      |some (.lst l)=>r a l y d Q3
      |_=>False)
     |_=>False) j b h1 λz vs d G n p q rs2 c=>?_
    split at c
    .split at c
     .rename_i I;cases n with
      |cons J s=>cases s;exact f a _ _ _ d G Q3 Q I J p c (k.le (g.trans q))
     .exact c.elim
    .exact c.elim
   .exact h1.elim
  |_=>exact h1.elim
abbrev QR(X:Cx)(cpos:Pos)(es:List ck):Prop:=((gU cpos (aU es X.env)).all (λx=>!x.1)&&(backToKw cpos (Au [] X.env)).all (λx=>x.1.isSome)
   && decide (es.length+([]:List Ht).length+(if ([]:List Ht).isEmpty then 0 else 1)<30))=ZY
def ph:ak->List D->D->M->qE->Prop:=λa l y m Q=>if l.length<1000000 then Q .non (bQ m a (.lst (l++[y]))) else False
def Um{K m H a xs b l Q3 Q d v}(e:H a=Z_ (.lst xs))(f:RM K m H)(r:dA K H l b)(g:k_ K H d v)(k:L_ K H Q3 Q)(q:Q3 d (bQ m a (.lst l))):Q v (gw H a (.lst b)):=by have c:=rY (o:=.lst b) e trivial;exact k _ _ _ _ (g.mono c) (f.wr (w:=.lst l) e trivial ⟨b,eT,r.mono c⟩) c q
nonrec def da(j:fH X o to)(he:fH X e te)(b:1<|g6 o "append" X.env (dh o X.env)=dh o X.env)(d:1<|QR X cpos [e])(c:1<|(apos.endLine==cpos.line)=ZY)
  (hs:1<|aU [e] X.env=(ZX,dh e X.env)::aU [] X.env):fH X (.Call (.Attribute o "append" apos) [e] [] cpos) (mj ph to te):=
 weakE3 (Qs xu PySem.F.slot_list_append PySem.F.type_list_append RD j (a8 he ai hs) b d c hs rfl) λσ H Q σ3 m n p f h k=>
  Ul (λa l y u m H n Q hm q f h k=>by
   obtain⟨r,g,e2⟩:=f a _ hm;unfold ph at h;split at h
   .rename_i hl;exact⟨a,r,u,rfl,rfl,g,by rw[ko,<-e2.length];lia,Um g f (e2.append (.cons q .nil)) .non k h⟩
   .exact h.elim) p f h k
def S2:ak->List D->D->M->qE->Prop:=λa l y m Q=>match JJ m y with
 |some n=>if l.length+n.length<1000000 then Q .non (bQ m a (.lst (l++n))) else False
 |none=>False
nonrec def wo(r:fH X o to)(he:fH X e te)(c:1<|g6 o "extend" X.env (dh o X.env)=dh o X.env)(f:1<|QR X cpos [e])(d:1<|(apos.endLine==cpos.line)=ZY)
  (hs:1<|aU [e] X.env=(ZX,dh e X.env)::aU [] X.env):fH X (.Call (.Attribute o "extend" apos) [e] [] cpos) (mj S2 to te):=
 weakE3 (Qs xu PySem.F.slot_list_extend PySem.F.type_list_extend P4 r (a8 he ai hs) c f d hs rfl) λσ H Q σ3 m s t g h k=>
  Ul (λa l y u m H s Q hm v g h k=>by
   obtain⟨w,p,e2⟩:=g a _ hm;unfold S2 at h;cases j:JJ m y with
   |none=>rw[j]at h;exact h.elim
   |some n=>
    simp only[j]at h;split at h
    .rename_i hl;obtain⟨b,x,rfl,z,q⟩:=X4 j v g;exact⟨a,b,w,x,rfl,rfl,p,z,by rw[ko,<-e2.length,<-q.length];lia,Um p g (e2.append q) .non k h⟩
    .exact h.elim) t g h k
def X5(to te:jt):jt:=λσ m Q=>to σ m λx a=>if (ej a x).isSome=ZY then te σ a λy b=>(match ej b x with
 |some l=>if (lS y).isSome=ZY/\(l.all λd=>(lS d).isSome)=ZY then (match l.findIdx? λz=>Pp z y with
  |some j=>Q (.int j) b
  |none=>False) else False
 |none=>False) else False
def KI{K H}:∀{l:List D} {xs:List V},dA K H l xs->(l.all λd=>(lS d).isSome)=ZY->xs.all rW=ZY
 |_,_,.nil,_=>rfl
 |_,_,.cons a r,h=>by rw[eO,a_]at h;rw[eO,KI r h.2,(CK h.1 a).2];rfl
nonrec def S3(S:fH X o to)(he:fH X e te)(c:1<|g6 o "index" X.env (dh o X.env)=dh o X.env)(g:1<|QR X cpos [e])(f:1<|(apos.endLine==cpos.line)=ZY)
  (hs:1<|aU [e] X.env=(ZX,dh e X.env)::aU [] X.env):fH X (.Call (.Attribute o "index" apos) [e] [] cpos) (X5 to te):=
 weakE3 (Qs xu PySem.F.slot_list_index PySem.F.type_list_index Tr S (a8 he ai hs) c g f hs rfl) λσ H Q σ3 m Q3 T U h k=>go (t:=to) T U h λx v V H1 P p A B h1=>by
  cases C:ej V x with
  |none=>rw[C]at h1;exact (h1:False).elim
  |some l0=>
   rw[C]at h1;obtain⟨a,D,rfl,W,q2⟩:=se C P p;refine⟨.inl ⟨rfl,D,.inl W⟩,?_⟩;refine SY (t:=af te aH) (Q3:=λR q=>match R with
     |[y]=>(match ej q x with
      |some l=>if (lS y).isSome=ZY/\(l.all λd=>(lS d).isSome)=ZY then (match l.findIdx? λz=>Pp z y with
       |some j=>Q3 (.int j) q
       |none=>False) else False
      |none=>False)
     |_=>False) B p h1 λR vs q Y E r s rs2 b=>?_
   split at b
   .rename_i y;cases E with
    |cons G I=>
     cases I;cases J:ej q x with
     |none=>rw[J]at b;exact b.elim
     |some l=>
      simp only[J]at b;split at b
      .rename_i u;split at b
       .rename_i j Z;obtain⟨a',xs,ea,z1,K⟩:=se J (P.mono s) r;cases ea;obtain⟨w,L,M⟩:=List.findIdx?_eq_some_iff_getElem.mp Z;have N:l[j]?=Z_ l[j]:=aj w;obtain⟨z,g1,g2⟩:=K.get N;have fl:∀d∈l,(lS d).isSome=ZY:=cb.mp u.2;refine⟨a,xs,_,j,z,rfl,rfl,.inl z1,(CK u.1 G).2,KI K u.2,g1,?_,λn z' hn hz=>?_,k _ _ q Y (.int _) r (A.trans s) b⟩
        .rwa[Ma (fl _ (fu w)) u.1 g2 G]
        .obtain⟨d,g3,g4⟩:=K.a2X hz;obtain⟨O,rfl⟩:=ax.mp g3;rw[Ma (fl _ (fu O)) u.1 g4 G];simpa using M n hn
       .exact b.elim
      .exact b.elim
   .exact b.elim
def BE:jt:=λ_ m Q=>∀p,m p=ZZ->Q (.ref p) (bQ m p (.dic []))
def vj:fH X (.Dict [] [] pos) BE:=gJ Tw λσ H Q Z=>Z34 Z λσ3 m Q3 rs a h k p b=>QQ b a .nil k (h p (a.free b))
def QS(tk tv:jt):jt:=λσ m Q=>∀p,m p=ZZ->tk σ (bQ m p (.dic [])) λx b=>tv σ b λy a=>match a p,oZ x with
 |some (.dic []),Z_ k=>Q (.ref p) (bQ a p (.dic [(k,y)]))
 |_,_=>False
def Uo{K m H a xs b l Q3 Q d v}(e:H a=Z_ (.dT xs))(f:RM K m H)(r:fL K H l b)(g:k_ K H d v)(k:L_ K H Q3 Q)(q:Q3 d (bQ m a (.dic l))):Q v (gw H a (.dT b)):=by have c:=rY (o:=.dT b) e trivial;exact k _ _ _ _ (g.mono c) (f.wr (w:=.dic l) e trivial ⟨b,eT,r.mono c⟩) c q
nonrec def S4{tk}(z:X.A.units+64<gv)(d:fH X e tk)(B:fH X value tv):fH X (.Dict [Z_ e] [value] pos) (QS tk tv):=
 gJ (TQ z d B) λσ H Q Z=>Z34 Z λσ3 m Q3 C r h k p f=>by
  have le:=rX (o:=.dT []) f;have g:RM X.K (bQ m p (.dic [])) (gw H p (.dT [])):=r.lay (w:=.dic []) f ⟨[],eT,.nil⟩;refine go (t:=tk) (C.mono le) g (h p (r.free f)) λx v m1 H1 D j l n h1=>go (t:=tv) n j h1 λy u m2 H2 E a c rs2 q=>?_;split at q
  .rename_i F hm d;obtain⟨ks,s,e2⟩:=a p _ hm;cases e2;obtain⟨b,rfl,G⟩:=tR d (D.mono c);refine⟨s,F,b,rfl,G,Uo s a (.cons rfl E .nil) (.ref p) (k.le ((le.trans l).trans c)) q⟩
  .exact q.elim
def Up(d f:jt):jt:=λσ m Q=>d σ m λx b=>if (eK b x).isSome=ZY then f σ b λy c=>(match eK c x,oZ y with
 |some a,Z_ k=>Q ((eF a k).getD .non) c
 |_,_=>False) else False
def Uq(d f g:jt):jt:=λσ m Q=>d σ m λx b=>if (eK b x).isSome=ZY then f σ b λy h=>g σ h λz c=>(match eK c x,oZ y with
 |some a,Z_ k=>Q ((eF a k).getD z) c
 |_,_=>False) else False
def NL{K H a f}(r:fL K H a f)(b:K2){d v}(q:k_ K H d v):k_ K H ((eF a b).getD d) ((vd f b).getD v):=by
 rcases vi r b with⟨h1,c⟩|⟨d',v',h1,c,g⟩
 .rwa[h1,c]
 .rwa[h1,c]
nonrec def Ur(s:X.A.units+64<gv)(w:fH X o to)(he:fH X e te)(m:M1 X o "get" apos e cpos):fH X (.Call (.Attribute o "get" apos) [e] [] cpos) (Up to te):=
 weakE3 (Tz s w he m) λσ H Q σ3 m Q3 z B h k=>go (t:=to) z B h λx v C H1 q c g j h1=>by
  cases l:eK C x with
  |none=>rw[l]at h1;exact (h1:False).elim
  |some l0=>
   rw[l]at h1;obtain⟨a,D,rfl,E,q2⟩:=A6 l q c;refine⟨a,rfl,.inr ⟨D,E⟩,go (t:=te) j c h1 λy u F G I d f rs2 n=>?_⟩;split at n
   .rename_i kvs r J K;obtain⟨a',p,L,M,N⟩:=A6 J (q.mono f) d;cases L;obtain⟨b,rfl,O⟩:=tR K I;exact⟨_,.inr ⟨p,r,b,M,rfl,O,rfl⟩,k _ _ F G (NL N r .non) d (g.trans f) n⟩
   .exact n.elim
nonrec def Us(E:X.A.units+64<gv)(F:fH X o to)(he:fH X e te)(j:fH X e2 te2)(m:M2 X o "get" apos e e2 cpos):fH X (.Call (.Attribute o "get" apos) [e,e2] [] cpos) (Uq to te te2):=
 weakE3 (TB E F he j m) λσ H Q σ3 m Q3 G I h k=>go (t:=to) G I h λx v J H1 C d l n h1=>by
  cases p:eK J x with
  |none=>rw[p]at h1;exact (h1:False).elim
  |some l0=>
   rw[p]at h1;obtain⟨a,K,rfl,L,q2⟩:=A6 p C d;refine⟨a,rfl,.inr ⟨K,L⟩,go (t:=te) n d h1 λy u m2 H2 M q f r N=>go (t:=te2) r q N λz w O P R g c rs3 s=>?_⟩;split at s
   .rename_i kvs D S T;obtain⟨a',B,U,V,W⟩:=A6 S ((C.mono f).mono c) g;cases U;obtain⟨b,rfl,Y⟩:=tR T (M.mono c);exact⟨_,.inr ⟨B,D,b,V,rfl,Y,rfl⟩,k _ _ O P (NL W D R) g ((l.trans f).trans c) s⟩
   .exact s.elim
def HV(to tk tv:jt):jt:=λσ m Q=>to σ m λx d=>match x with
 |.ref a=>(match d a with
  |some (.dic _)=>tk σ d λy f=>tv σ f λv c=>(match c a,oZ y with
   |some (.dic b),Z_ k=>if b.length<1000000 then (match eF b k with
    |some o=>Q o c
    |none=>Q v (bQ c a (.dic (yf b k v)))) else False
   |_,_=>False)
  |_=>False)
 |_=>False
nonrec def yJ(S:X.A.units+64<gv)(n:fH X o to)(he:fH X e te)(D:fH X e2 te2)(f:1<|g6 o "setdefault" X.env (dh o X.env)=dh o X.env)(q:1<|QR X cpos [e,e2])(g:1<|(apos.endLine==cpos.line)=ZY)
  (hs:1<|aU [e,e2] X.env=(ZX,dh e X.env)::aU [e2] X.env)(E:1<|aU [e2] X.env=(ZX,dh e2 X.env)::aU [] X.env)(G:1<|(gU cpos (aU [e2] X.env)).any (·.1)=ZX):fH X (.Call (.Attribute o "setdefault" apos) [e,e2] [] cpos) (HV to te te2):=
 weakE3 (Qs xt PySem.F.slot_dict_setdefault PySem.F.type_dict_setdefault (JH S) n (a8 he (a8 D ai E) hs) f q g hs G) λσ H Q σ3 m Q3 T U h k=>go (t:=to) T U h λx v m1 H1 V r s I h1=>by
  cases x with
  |ref a=>
   cases V;simp only at h1;split at h1
   .rename_i l W;obtain⟨J,Y,q2⟩:=r a _ W;refine⟨.inr (.inr (.inl ⟨rfl,.inr ⟨J,Y⟩⟩)),?_⟩;refine SY (t:=af te (af te2 aH)) (Q3:=λN K=>match N with
     |[y,v]=>(match K a,oZ y with
      |some (.dic d),Z_ k=>if d.length<1000000 then (match eF d k with
       |some o=>Q3 o K
       |none=>Q3 v (bQ K a (.dic (yf d k v)))) else False
      |_,_=>False)
     |_=>False) I r h1 λN vs Z H2 L j u rs2 c=>?_
    split at c
    .rename_i y v;cases L with
     |cons r1 M=>
      cases M with
      |cons O r3=>
       cases r3;split at c
       .rename_i d B hm hk;split at c
        .rename_i hlen;obtain⟨ks,P,C⟩:=j a _ hm;obtain⟨b,rfl,eb⟩:=tR hk r1;refine⟨a,.ref b,_,ks,B,b,rfl,rfl,rfl,P,eb,by rw[ko,<-C.len];lia,λo n=>?_,λw=>?_⟩
         .rcases vi C B with⟨z,p⟩|⟨d',v',z,p,R⟩
          .rw[p]at n;cases n
          .rw[p]at n;cases n;simp only[z]at c;exact k _ _ Z H2 R j (s.trans u) c
         .rcases vi C B with⟨z,p⟩|⟨d',v',z,p,R⟩
          .simp only[z]at c;exact Uo P j (M7 C B O) O (k.le (s.trans u)) c
          .rw[p]at w;cases w
        .exact c.elim
       .exact c.elim
    .exact c.elim
   .exact h1.elim
  |_=>exact h1.elim
def BF(tv to ti:jt):gT:=λE σ m=>tv σ m λy c=>to σ c λx d=>ti σ d λz b=>match x,z with
 |.ref a,.int i=>(match b a with
  |some (.lst l)=>(match SW l.length i with
   |some j=>E.nx σ (bQ b a (.lst (l.set j y)))
   |none=>False)
  |_=>False)
 |_,_=>False
nonrec def vm(G:fH X o to)(I:fH X i ti)(J:fH X value tv)
  (K:3<|∀v,Ka (.Subscript o i pos') X.env v=(do
   let g <-As [v] (dh o X.env)
   let p <-As [v,g] (dh i X.env)
   standAt pos'
   As [v,g,p] (setItem g p v)
   release [v,g,p] []))(hs:1<|swapsWithSole [.Subscript o i pos'] value pos.line X.env=pure ZX)(hw:1<|swappedStores [.Subscript o i pos'] value X.env=pure ZZ)
  (h1:1<|(yi [.Subscript o i pos'] X.env).map (·.2)=[Ka (.Subscript o i pos') X.env]):ON X (.Assign [.Subscript o i pos'] value pos) (BF tv to ti):=
 weakS3 (XA J (Xy G I Tq K) hs hw h1) λE σ H σ3 m E3 L M h k=>go (t:=tv) L M h λy u m1 H1 N q r s h1=>go (t:=to) s q h1 λx v m2 H2 O A c B P=>go (t:=ti) B A P λz w m3 H3 Q d f C b=>by
  split at b
  .rename_i a j;split at b
   .rename_i l hm;split at b
    .rename_i n R;cases O;cases Q;obtain⟨xs,D,e2⟩:=d a _ hm;have F:=rY (o:=.lst (xs.set n u)) D trivial;refine⟨a,xs,j,n,rfl,rfl,D,by rwa[<-e2.length],k.nx σ3 σ _ _ (C.mono F) (d.wr (w:=.lst (l.set n y)) D trivial ⟨_,eT,(e2.set ((N.mono c).mono f) n).mono F⟩) (((r.trans c).trans f).trans F) b⟩
    .exact b.elim
   .exact b.elim
  .exact b.elim
def BG(tv to ti:jt):gT:=λE σ m=>tv σ m λy c=>to σ c λx d=>ti σ d λz b=>match x,oZ z with
 |.ref a,Z_ k=>(match b a with
  |some (.dic l)=>if l.length<16000000 then E.nx σ (bQ b a (.dic (yf l k y))) else False
  |_=>False)
 |_,_=>False
nonrec def vn(G:X.A.units+64<gv)(I:fH X o to)(J:fH X i ti)(K:fH X value tv)(hs:1<|me value (Z_ (.Subscript o i pos')) pos.line X.env=pure ZX):ON X (.Assign [.Subscript o i pos'] value pos) (BG tv to ti):=
 weakS3 (VY G I J K hs) λE σ H σ3 m E3 L M h k=>go (t:=tv) L M h λy u m1 H1 N n p q h1=>go (t:=to) q n h1 λx v m2 H2 O r d s P=>go (t:=ti) s r P λz w m3 H3 Q f g B c=>by
  split at c
  .rename_i a j R;split at c
   .rename_i l hm;split at c
    .rename_i hl;cases O;obtain⟨F,C,e2⟩:=f a _ hm;obtain⟨b,rfl,S⟩:=tR R Q;have D:=rY (o:=.dT (uk F j u)) C trivial;refine⟨a,_,rfl,.inr ⟨F,j,b,C,rfl,S,by rw[ko,<-e2.len];lia,rfl⟩,k.nx σ3 σ _ _ (B.mono D) (f.wr (w:=.dic (yf l j y)) C trivial ⟨_,eT,(M7 e2 j ((N.mono d).mono g)).mono D⟩) (((p.trans d).trans g).trans D) c⟩
    .exact c.elim
   .exact c.elim
  .exact c.elim
def CN(G:ak->dW->Prop)(b:jt)(t:Cz):jt:=λσ m Q=>b σ m λx c=>match x with
 |.ref f=>∃a,G f a/\t σ c λd g=>a d g (a6l Q ⟨⟩)
 |_=>False
def KJ{a c t}{s:Nat}{G}(u:jw s X.A)(y:∀f sp,G f sp->∃b ps,oU X.prog X.w X.K X.mg X.base Kr s f b ps (l9 X.K sp)/\eJ X.K (.ref f)=ZY/\oY X.K b ps [])(hf:fH X a c)(z:Ge X (e::es) t)
  (hs:1<|dh (.Call a (e::es) [] pos) X.env=(do let f <-dh a X.env;callWith pos f [] (gU pos (aU (e::es) X.env)) (backToKw pos (Au [] X.env))))
  (he:1<|aU (e::es) X.env=(ZX,dh e X.env)::aU es X.env)(d:1<|(gU pos (aU es X.env)).any (·.1)=ZX):fH X (.Call a (e::es) [] pos) (CN G c t):=
 weakE3 (TN u hf z hs he d) λσ H Q σ3 m Q3 B C h k=>go (t:=c) B C h λx v m1 H1 D j l n h1=>by
  cases x with
  |ref f=>cases D;obtain⟨sp,g,h1⟩:=h1;obtain⟨b,ps,F,E,I⟩:=y f sp g;exact⟨f,b,ps,l9 X.K sp,rfl,F,E,I,SY (t:=t) n j h1 λds vs J H2 p q r rs2 L=>⟨ds,J,Q3,p,q,L,k.le (l.trans r)⟩⟩
  |_=>exact h1.elim
end
def Vs(a:ak)(x d d':D):Prop:=d'=d\/(d=.ref a/\d'=x)
inductive Wg(a:ak)(x:D):MO->MO->Prop
 |same {o:MO}:Wg a x o o
 |dic {l l':List (K2×D)}:cE (λp q=>p.1=q.1/\Vs a x p.2 q.2) l l'->Wg a x (.dic l) (.dic l')
 |ins {C:ak} {l l':List (Str×D)}:cE (λp q=>p.1=q.1/\Vs a x p.2 q.2) l l'->Wg a x (.ins C l) (.ins C l')
def Ut(a:ak)(x:D)(m m':M):Prop:=∀b c,m' b=Z_ c->b≠a/\∃o,m b=Z_ o/\Wg a x o c
inductive A7(Q:qE):D->M->Prop
 |done {d:D} {m m':M}:Cj m' m->Q d m'->A7 Q d m
 |lst {d d':D} {m m':M} (a:ak) (l:List D):m a=Z_ (.lst l)->Vs a (.lst l) d d'->Ut a (.lst l) m m'->A7 Q d' m'->A7 Q d m
 |dic {d d':D} {m m':M} (a:ak) (l:List (K2×D)):m a=Z_ (.dic l)->Vs a (.dic l) d d'->Ut a (.dic l) m m'->A7 Q d' m'->A7 Q d m
section
variable {K:ab} {H H':Hp} {m m':M} {a:ak} {x:D}
def Vs.rep{d d' v}(h:Vs a x d d')(le:Le H H')(b:k_ K H' x (.ref a))(r:k_ K H d v):k_ K H' d' v:=by
 rcases h with h|⟨h,c⟩
 .subst h;exact r.mono le
 .subst h;subst c;cases r;exact b
def Uu(le:Le H H')(d:k_ K H' x (.ref a)):∀{l c:List (K2×D)} {b:List (K2×V)},cE (λp q=>p.1=q.1/\Vs a x p.2 q.2) l c->fL K H l b->fL K H' c b:=by
 intro l c b h g;induction h generalizing b with
 |nil=>cases g;exact .nil
 |cons h t f=>cases g with|cons e r q=>exact .cons (h.1.symm.trans e) (h.2.rep le d r) (f q)
def ZS(le:Le H H')(d:k_ K H' x (.ref a)):∀{l b:List (Str×D)} {c:List (Str×V)},cE (λp q=>p.1=q.1/\Vs a x p.2 q.2) l b->ve K H l c->ve K H' b c:=by
 intro l b c h;induction h generalizing c with
 |nil=>intro q;cases q;exact .nil
 |@cons p q l b h t e=>
  intro z;obtain⟨g,d'⟩:=q;cases z with
  |cons r s=>obtain⟨h1,f⟩:=h;cases h1;exact .cons (f.rep le d r) (e s)
def Ut.rm{o}(h:Ut a x m m')(le:Le H (gw H a o))(g:k_ K (gw H a o) x (.ref a))(i:RM K m H):RM K m' (gw H a o):=λb j e=>by
 obtain⟨c,k,l,n⟩:=h b j e;have ok:=i b k l;cases n with
 |same=>exact ok.mono le (dy c)
 |dic d=>obtain⟨p,h1,f⟩:=ok;exact⟨p,(dy c).trans h1,Uu le g d f⟩
 |ins d=>obtain⟨q,r,h1,f,s⟩:=ok;exact⟨q,r,(dy c).trans h1,ZS le g d f,s⟩
def A7.down{Q3 d m}(h:A7 Q3 d m):∀{H:Hp} {v:V} {Q:VK},k_ K H d v->RM K m H->L_ K H Q3 Q->Fz Q v H:=by
 induction h with
 |done s q=>exact λr c k=>.done (k _ _ _ _ r (c.sub s) (.refl _) q)
 |lst a l hm j n _ p=>intro H v Q r c k;obtain⟨e,f,t⟩:=c a _ hm;refine .step a (.lst e) f trivial λg=>?_;have b:=rY (o:=.frz g (.lst e)) f trivial;have i:k_ K (gw H a (.frz g (.lst e))) (.lst l) (.ref a):=.lst eT (t.mono b);exact p (j.rep b i r) (n.rm b i c) (k.le b)
 |dic a l hm j n _ p=>intro H v Q r c k;obtain⟨e,f,t⟩:=c a _ hm;refine .step a (.dT e) f trivial λg=>?_;have b:=rY (o:=.frz g (.dT e)) f trivial;have i:k_ K (gw H a (.frz g (.dT e))) (.dic l) (.ref a):=.dic eT (t.mono b);exact p (j.rep b i r) (n.rm b i c) (k.le b)
end
def HW(N:List Str)(ds:List D):Ck:=ds.map Z_++qc (N.length-ds.length) ZZ
def Uv{K H N ds vs}(r:dA K H ds vs):RS K H (HW N ds) (L2.A_ N vs):=by
 unfold HW L2.A_;rw[r.length];generalize N.length-vs.length=n;have nones:∀n,cE (RO K H) (qc n ZZ) (qc n ZZ):=by
  intro n;induction n with
  |zero=>exact .nil
  |succ n b=>exact .cons trivial b
 have go:∀{ds:List D} {vs:List V},dA K H ds vs->RS K H (ds.map Z_++qc n ZZ) (vs.map Z_++qc n ZZ):=by
  intro ds vs r;induction ds generalizing vs with
  |nil=>cases r;exact nones n
  |cons d ds b=>cases r with
   |cons a r=>exact .cons a (b r)
 exact go r
section
variable {P:bF} {w:cD} {K:ab} {mg:Str->Option aq} {base:cQ}
def fn3{x qual st f j}{N ps:List Str}{k:Nat}{sp t}(F:TF K x qual st f j)(S:bt N ps (aY st))(i:∀ds m Q,sp ds m Q->ds.length=ps.length)
  (c:∀(b:aq) (A:cB) (outer:List Env) (s:aA) (H:Hp),jw k (A.deeper (yj qual (aY st) s.heap.objs.size f b))->CC (Nc Kr P w K mg base N qual (aY st) f b A outer s H E0).nox (lG st) t)
  (e:∀ds m Q,sp ds m Q->t {nx:=λ_ m'=>Q .non m',rt:=A7 Q} (HW N ds) m):oU P w K mg base Kr (k+1) f j ps (l9 K sp):=by
 refine TF.ok F S (λn H Q E Z=>Z34 Z λds m l r _ h _=>by rw[<-r.length];exact i _ _ _ h) λb A outer s H n Q E o Z=>Z34 Z λds m l r p h k=>?_;refine⟨_,Yi (c b A outer s H o),HW N ds,m,_,Uv r,p,e ds m l h,⟨λσ3 σ m' H' _ g le q=>k _ _ m' H' .non g le q,λd v m' H' u g le q=>?_,λ_ _ _ _ _ _ _ z=>z.elim,λ_ _ _ _ _ _ _ z=>z.elim⟩⟩;exact q.down u g (k.le le)
end
noncomputable abbrev XF(P:bF)(w:cD)(K:ab)(mg:Str->Option aq)(base:cQ)(N:List Str)(qual:Str)(sc:gn)(f:ak)(cdv:aq)(A:cB)(outer:List Env)(s:aA)(H:Hp):Cx:=(Nc Kr P w K mg base N qual sc f cdv A outer s H E0).nox
def S5(sc:gn)(x:Str):Bool:=match sc.names.lookup x with
 |some .local=>ZY
 |some .cell=>ZY
 |some .free=>ZY
 |_=>ZX
def NM(sc:gn)(x:Str):Bool:=match sc.names.lookup x with
 |some .local=>ZY
 |some .cell=>ZY
 |_=>ZX
def Z3(sc:gn)(x:Str):Bool:=match sc.names.lookup x with
 |some .globalImplicit=>ZY
 |_=>ZX
nonrec def Uw{sc x}(h:S5 sc x=ZY):SU sc x:=by
 unfold S5 at h;split at h
 .rename_i e;exact .inl e
 .rename_i e;exact .inr (.inl e)
 .rename_i e;exact .inr (.inr e)
 .cases h
nonrec def Pu{sc x}(h:NM sc x=ZY):Qh sc x:=by
 unfold NM at h;split at h
 .rename_i e;exact .inl e
 .rename_i e;exact .inr e
 .cases h
nonrec def X6{sc:gn}{x}(h:Z3 sc x=ZY):sc.names.lookup x=Z_ .globalImplicit:=by
 unfold Z3 at h;split at h
 .rename_i e;exact e
 .cases h
section
variable {P:bF} {w:cD} {K:ab} {mg:Str->Option aq} {base:cQ} {N:List Str} {qual:Str} {sc:gn} {f:ak} {cdv:aq} {A:cB} {outer:List Env} {s:aA} {H:Hp} {x:Str}
def vf(h:S5 sc x=ZY):SU (XF P w K mg base N qual sc f cdv A outer s H).env.scope x:=Uw h
def lf(h:NM sc x=ZY):Qh (XF P w K mg base N qual sc f cdv A outer s H).env.scope x:=Pu h
def gf(h:Z3 sc x=ZY):Gl (XF P w K mg base N qual sc f cdv A outer s H) x:=X6 h
variable {X:Cx} {scope:gn} {cl:List (Str×ak)} {C:ak} {fp:List ak}
def nI{env:Env}:∀(names:List (Str×jy)) (x:Str),(names.map λ(n,k)=>if (k==ju&&env.scope.kind==.function&&env.kindOf n==Z_ .cell) then (n,qA) else (n,k)).lookup x=(names.lookup x).map λk=>if (k==ju&&env.scope.kind==.function&&env.kindOf x==Z_ .cell) then qA else k
 |[],_=>rfl
 |(n,k)::r,x=>by
  have c:=nI (env:=env) r x;rw[aQ];show mf x ((if (k==ju&&env.scope.kind==.function&&env.kindOf n==Z_ .cell)=ZY then (n,qA) else (n,k))::_)=_;by_cases b:x=n
  .subst b;rw[cX (as:=r),beq_self_eq_true];simp only[dZ];split
   .rw[cX,beq_self_eq_true]
   .rw[cX,beq_self_eq_true]
  .have a:(x==n)=ZX:=beq_false_of_ne b;rw[cX (as:=r),a];simp only;rw[<-c];split
   .rw[cX,a]
   .rw[cX,a]
def vb(h:S5 scope x=ZY):SU (X.blk s H scope (cH scope cl C X.env) fp).env.scope x:=by
 have e:(X.blk s H scope (cH scope cl C X.env) fp).env.scope.names.lookup x=_:=nI (env:=X.env) scope.names x;unfold SU;rw[e];rcases Uw h with q|q|q
 .rw[q];exact .inl rfl
 .rw[q];exact .inr (.inl rfl)
 .rw[q];simp only[dZ];split
  .exact .inr (.inl rfl)
  .exact .inr (.inr rfl)
def lb(h:NM scope x=ZY):Qh (X.blk s H scope (cH scope cl C X.env) fp).env.scope x:=by
 have e:(X.blk s H scope (cH scope cl C X.env) fp).env.scope.names.lookup x=_:=nI (env:=X.env) scope.names x;unfold L2.Qh;rw[e];rcases Pu h with q|q
 .rw[q];exact .inl rfl
 .rw[q];exact .inr rfl
def gb(h:Z3 scope x=ZY):Gl (X.blk s H scope (cH scope cl C X.env) fp) x:=by have e:(X.blk s H scope (cH scope cl C X.env) fp).env.scope.names.lookup x=_:=nI (env:=X.env) scope.names x;show (X.blk s H scope (cH scope cl C X.env) fp).env.scope.names.lookup x=_;rw[e,X6 h];rfl
def fb(h:NM scope x=ZY):(X.blk s H scope (cH scope cl C X.env) fp).fn x=ZY\/(X.blk s H scope (cH scope cl C X.env) fp).env.scope.names.lookup x=Z_ .local:=by
 have e:(X.blk s H scope (cH scope cl C X.env) fp).env.scope.names.lookup x=_:=nI (env:=X.env) scope.names x;rw[e];rcases Pu h with q|q
 .rw[q];exact .inr rfl
 .left
  show (scope.names.lookup x==Z_ .cell)=ZY;rw[q];rfl
end
def GV(K:ab)(mg:Str->Option aq)(x:Str)(d:D):Prop:=∃u v,mg x=Z_ u/\ee v u/\∀H,k_ K H d v
structure jW(P:bF)(w:cD)(K:ab)(mg:Str->Option aq)(base:cQ)(k:Nat)(x:Str)(n:Nat)(sp:dW):Prop where
 ex:∃f fd ps,mg x=Z_ (.ref f)/\oU P w K mg base Kr k f fd ps (l9 K sp)/\eJ K (.ref f)=ZY/\oY K fd ps []/\ps.length=n
structure Yw(P:bF)(w:cD)(K:ab)(mg:Str->Option aq)(base:cQ)(k:Nat)(x:Str)(C:ak)(sp:dW):Prop where
 ex:∃f fd ps,mg x=Z_ (.ref C)/\oU P w K mg base Kr k f fd ps (l9 K sp)/\oY K fd ps []/\Mk K C f/\RU K C
 non:∀ds m Q,sp ds m Q->sp ds m λd m'=>d=.non/\Q d m'
section
variable {X:Cx} {e:ck} {es:List ck} {x:Str} {tr:Cz} {p pos:Pos} {k n:Nat} {sp:dW} {C:ak} {d:D}
def ng(g:GV X.K X.mg x d)(hg:Gl X x)(a:2<|(x==("__debug__":Str))=ZX):fH X (.Name x pos) (cg d):=by obtain⟨u,v,h1,b,c⟩:=g;exact T_ hg h1 b c a
def nc(g:jW X.prog X.w X.K X.mg X.base k x n sp)(c:jw k X.A)(hg:Gl X x)(ha:Ge X (e::es) tr)(a:2<|(x==("__debug__":Str))=ZX)(he:1<|aU (e::es) X.env=(ZX,dh e X.env)::aU es X.env)(b:1<|(gU pos (aU es X.env)).any (·.1)=ZX):
  fH X (.Call (.Name x p) (e::es) [] pos) (bw sp tr):=by
 obtain⟨f,fd,ps,h1,h,i,j,_⟩:=g.ex;exact U3 h c hg h1 i j ha a he b
def a1P(g:Yw X.prog X.w X.K X.mg X.base k x C sp)(c:jw (k+1) X.A)(hg:Gl X x)(ha:Ge X (e::es) tr)(a:2<|(x==("__debug__":Str))=ZX)(he:1<|aU (e::es) X.env=(ZX,dh e X.env)::aU es X.env)(b:1<|(gU pos (aU es X.env)).any (·.1)=ZX):
  fH X (.Call (.Name x p) (e::es) [] pos) (wg C sp tr):=by
 obtain⟨f,fd,ps,h1,h,i,j,l⟩:=g.ex;exact U4 l g.non j h c hg h1 i ha a he b
def Yx(g:Yw X.prog X.w X.K X.mg X.base k x C sp)(b:jw (k+1) X.A)(hg:Gl X x)(a:2<|(x==("__debug__":Str))=ZX):fH X (.Call (.Name x p) [] [] pos) (wg C sp aH):=by obtain⟨f,fd,ps,h1,c,h,i,j⟩:=g.ex;exact RV j g.non i c b hg h1 h a
variable (hg:Gl X x) (hm:X.mg x=ZZ) (ha:Ge X (e::es) tr)
def eQ{p pos e tr}(hm:X.mg "len"=ZZ)(hg:Gl X "len")(ha:Ge X [e] tr)(he:1<|aU [e] X.env=(ZX,dh e X.env)::aU [] X.env):fH X (.Call (.Name "len" p) [e] [] pos) (dG ie tr):=rO LV Wd hg hm rfl ha (he:=he)
def Mc{p pos e tr}(hm:X.mg "list"=ZZ)(hg:Gl X "list")(ha:Ge X [e] tr)(he:1<|aU [e] X.env=(ZX,dh e X.env)::aU [] X.env):fH X (.Call (.Name "list" p) [e] [] pos) (dG KB tr):=wk (kr.fz Cs) R_ hg hm rfl ha (he:=he)
def Wh{p pos e tr}(hm:X.mg "list"=ZZ)(hg:Gl X "list")(ha:Ge X [e] tr)(he:1<|aU [e] X.env=(ZX,dh e X.env)::aU [] X.env):fH X (.Call (.Name "list" p) [e] [] pos) (dG Pq tr):=wk Cs S0 hg hm rfl ha (he:=he)
def nJ{p pos e tr}(hm:X.mg "tuple"=ZZ)(a:X.calm=ZY)(hg:Gl X "tuple")(ha:Ge X [e] tr)(he:1<|aU [e] X.env=(ZX,dh e X.env)::aU [] X.env):fH X (.Call (.Name "tuple" p) [e] [] pos) (dG nH tr):=wk (NK a) S1 hg hm rfl ha (he:=he)
def Yy{p pos e tr}(hm:X.mg "dict"=ZZ)(a:X.calm=ZY)(b:X.A.units+128<gv)(hg:Gl X "dict")(ha:Ge X [e] tr)(he:1<|aU [e] X.env=(ZX,dh e X.env)::aU [] X.env):fH X (.Call (.Name "dict" p) [e] [] pos) (dG Pt tr):=wk (P5 a b) Uk hg hm rfl ha (he:=he)
def KL{p pos e tr}(hm:X.mg "all"=ZZ)(a:X.calm=ZY)(hg:Gl X "all")(ha:Ge X [e] tr)(he:1<|aU [e] X.env=(ZX,dh e X.env)::aU [] X.env):fH X (.Call (.Name "all" p) [e] [] pos) (dG (uo λl=>l.all id) tr):=rO (XZ a) KD hg hm rfl ha (he:=he)
def ZT{p pos e tr}(hm:X.mg "any"=ZZ)(a:X.calm=ZY)(hg:Gl X "any")(ha:Ge X [e] tr)(he:1<|aU [e] X.env=(ZX,dh e X.env)::aU [] X.env):fH X (.Call (.Name "any" p) [e] [] pos) (dG (uo λl=>l.any id) tr):=rO (XY a) KD hg hm rfl ha (he:=he)
def ZU{p pos e tr}(hm:X.mg "sum"=ZZ)(a:X.calm=ZY)(hg:Gl X "sum")(ha:Ge X [e] tr)(he:1<|aU [e] X.env=(ZX,dh e X.env)::aU [] X.env):fH X (.Call (.Name "sum" p) [e] [] pos) (dG Yu tr):=rO (XU a) We hg hm rfl ha (he:=he)
def ZV{p pos e tr}(hm:X.mg "max"=ZZ)(a:X.calm=ZY)(hg:Gl X "max")(ha:Ge X [e] tr)(he:1<|aU [e] X.env=(ZX,dh e X.env)::aU [] X.env):fH X (.Call (.Name "max" p) [e] [] pos) (dG Yv tr):=rO (XW a) Wf hg hm rfl ha (he:=he)
def NN{p pos e tr}(hm:X.mg "sorted"=ZZ)(hg:Gl X "sorted")(ha:Ge X [e] tr)(he:1<|aU [e] X.env=(ZX,dh e X.env)::aU [] X.env):fH X (.Call (.Name "sorted" p) [e] [] pos) (dG CM tr):=rO (kr.fz P7) Pr hg hm rfl ha (he:=he)
end
@[inline]def top(i:Nat):cR:=PySem.Challenge.pw_hintmaps_s01_answers.main.body.getD i (.Pass ⟨0,0,0,0⟩)
abbrev iW:ak:=602
abbrev CO:ak:=613
abbrev yK:ak:=620
abbrev CP:ak:=627
abbrev Fu:ak:=634
abbrev KM:ak:=641
abbrev my:ak:=563
abbrev pP:ak:=570
abbrev nL:ak:=577
abbrev vo:ak:=585
abbrev rA:ak:=525
abbrev pQ:ak:=532
abbrev pR:ak:=539
abbrev rB:ak:=544
abbrev vp:ak:=549
abbrev kT:ak:=556
abbrev pS:ak:=485
abbrev mz:ak:=492
abbrev nM:ak:=497
abbrev nN:ak:=504
abbrev pT:ak:=511
abbrev nO:ak:=518
abbrev xF:ak:=451
abbrev sf:ak:=456
abbrev HX:ak:=463
abbrev CQ:ak:=471
abbrev pU:ak:=478
abbrev KN:ak:=416
abbrev B4:ak:=423
abbrev CS:ak:=430
abbrev yL:ak:=437
abbrev tT:ak:=444
abbrev Fv:ak:=382
abbrev KO:ak:=389
abbrev B5:ak:=394
abbrev yM:ak:=399
abbrev Fw:ak:=404
abbrev vq:ak:=409
abbrev Fx:ak:=330
abbrev B6:ak:=335
abbrev NO:ak:=342
abbrev Fy:ak:=349
abbrev cK:ak:=366
abbrev xG:ak:=377
abbrev ml:ak:=271
abbrev j_:ak:=288
abbrev KP:ak:=299
abbrev QT:ak:=306
abbrev FA:ak:=311
abbrev qk:ak:=318
abbrev vt:ak:=323
abbrev o_:ak:=231
abbrev yN:ak:=238
abbrev KQ:ak:=245
abbrev yO:ak:=252
abbrev tU:ak:=259
abbrev p0:ak:=266
abbrev sg:ak:=175
abbrev iK:ak:=192
abbrev B7:ak:=203
abbrev xH:ak:=210
abbrev NP:ak:=217
abbrev nP:ak:=224
abbrev rC:ak:=139
abbrev tV:ak:=146
abbrev tW:ak:=153
abbrev tX:ak:=160
abbrev mB:ak:=167
abbrev HY:ak:=108
abbrev tY:ak:=113
abbrev tZ:ak:=120
abbrev r9:ak:=125
abbrev mD:ak:=132
abbrev ra:ak:=82
abbrev sh:ak:=87
abbrev nQ:ak:=94
abbrev yP:ak:=101
abbrev CT:ak:=56
abbrev KR:ak:=63
abbrev yQ:ak:=70
abbrev NQ:ak:=75
def A8:D:=.mtup [.mtup [],.mtup [.str "size",.str "begin"],.mtup [.str "needs",.str "effects"],.mtup [.str "needs"],.mtup [.str "variable",.str "needs"],.mtup [.str "variable",.str "least",.str "greatest"],.mtup [.str "price",.str "needs"],.mtup [.str "purse"],.mtup [.str "doing"],.mtup [],.mtup [],.mtup [],.mtup [.str "most"],.mtup [.str "most"],.mtup [],.mtup [.str "fact"],.mtup [.str "fact"],.mtup [.str "most"],.mtup [.str "most"],.mtup [.str "most"],.mtup [],.mtup [],.mtup []]
def nR:D:=.mtup [.int 0,.int (-5),.int (-7),.int (-8)]
def nU:D:=.mtup [.ref mD,.ref rC,.ref tV,.ref tW,.ref tX,.ref mB]
def rD:D:=.mtup [.ref pU,.ref pS,.ref mz,.ref nM,.ref nN,.ref pT,.ref nO,.ref rA,.ref pQ,.ref pR,.ref rB,.ref kT,.ref my,.ref pP,.ref nL]
def vw(x:Str):Option D:=([("size",.mtup [.int 1,.int 50]),("begin",.mtup [.int 0,.int 49]),("variable",.mtup [.int 0,.int 7]),("least",.mtup [.int 0,.int 49]),("greatest",.mtup [.int 0,.int 49]),("price",.mtup [.int 0,.int 1000]),("purse",.mtup [.int 0,.int 10000]),("doing",.mtup [.int 0,.int 19]),("fact",.mtup [.int 0,.int 11]),("most",.mtup [.int 1,.int 60])]:List (Str×D)).lookup x
structure Ux(P:bF)(w:cD)(K:ab)(mg:Str->Option aq):Prop where
 ex:∃a o kvs,mg "RANGES"=Z_ (.ref a)/\(a==eX)=ZX/\K.lookup a=Z_ o/\(∀h:cQ,h.get? a=Z_ o->h.DictOf (lF P w) a kvs)/\∀x d,vw x=Z_ d->∃v u,Ax kvs (.inr x)=Z_ u/\ee v u/\∀H,k_ K H d v
structure a1Q(P:bF)(w:cD)(K:ab)(mg:Str->Option aq):Prop where
 a0v:mg "len"=ZZ
 a2V:mg "list"=ZZ
 a1W:mg "tuple"=ZZ
 a4p:mg "dict"=ZZ
 a3a:mg "sorted"=ZZ
 a3v:mg "all"=ZZ
 a4R:mg "any"=ZZ
 a4S:mg "sum"=ZZ
 a4H:mg "max"=ZZ
 a3h:mg "range"=ZZ
 a1V:mg "enumerate"=ZZ
 a4w:mg "zip"=ZZ
 a3X:GV K mg "CLEAR" (.int 0)
 a4s:GV K mg "VAR" (.int 1)
 a3T:GV K mg "MAYBE" (.int 5)
 a3j:GV K mg "START" (.int 7)
 a3i:GV K mg "FORMS" A8
 a2e:GV K mg "LONGEST_LIST" (.int 30)
 a2c:GV K mg "MOST_VARIABLES" (.int 8)
 a2l:GV K mg "MOST_DOINGS" (.int 20)
 a2s:GV K mg "MOST_VIEWS" (.int 20)
 a2v:GV K mg "MOST_FACTS" (.int 12)
 a2g:GV K mg "PUZZLE_CALLS" nU
 a2m:GV K mg "MOST_STATES" (.int 200)
 a2k:GV K mg "MOST_PAST" (.int 200)
 a2f:GV K mg "BAR_REFUSALS" nR
 a2t:GV K mg "PLAY_CALLS" rD
 a2o:GV K mg "MOST_STARTS" (.int 400)
 a2a:GV K mg "MOST_BEGINNINGS" (.int 40)
 a4O:Ux P w K mg
def ZW{A:cB}{k:Nat}(a:jw k A):A.units+128<gv:=by have:=a.un;lia
section
variable {P:bF} {w:cD} {K:ab} {mg:Str->Option aq} {base:cQ} {N:List Str} {qual:Str} {sc:gn} {f:ak} {cdv:aq} {A:cB} {outer:List Env} {s:aA} {H:Hp} {x:Str}
def a1o{scope own}(h:VU N sc scope own=ZY):xD (XF P w K mg base N qual sc f cdv A outer s H).N (XF P w K mg base N qual sc f cdv A outer s H).env.scope scope own:=Tt h
def Pv(sc:gn)(x:Str):Bool:=match sc.names.lookup x with
 |some .local=>ZY
 |_=>ZX
def lkf(h:Pv sc x=ZY):(XF P w K mg base N qual sc f cdv A outer s H).env.scope.names.lookup x=Z_ .local:=by
 show sc.names.lookup x=_;unfold Pv at h;split at h
 .assumption
 .cases h
end
def Uy(tb:jt):jt:=λσ m Q=>tb σ m λy a=>match y with
 |.str x=>(match vw x with
  |some d=>Q d a
  |none=>False)
 |_=>False
section
variable {X:Cx} {b:ck} {tb:jt} {p pos:Pos}
def a1p(K:ab)(a:ak):R2:=λx y H Q=>x=.ref a/\∃z d,y=.str z/\vw z=Z_ d/\∀v,k_ K H d v->Q v H
def HZ(g:Ux X.prog X.w X.K X.mg)(E:Gl X "RANGES")(G:fH X b tb)(hs:6<|GT b):fH X (.Subscript (.Name "RANGES" p) b pos) (Uy tb):=by
 obtain⟨a,o,kvs,h1,e,J,L,M⟩:=g.ex;have O:Vr X (a1p X.K a):=by
  intro value slice pins s σ H x y v u Q I R j h hs;obtain⟨rfl,z,d,rfl,i,q⟩:=h;obtain rfl:v=bp a:=R;have B:=L s.heap (I.kIn a o J);have C:s.TypeIs (.ref a) "dict":=B.typeIs;obtain⟨D,u',S,T,U⟩:=M z d i;unfold JB;refine aa ?_;rw[getitemInPython_of_ne C.not_modules];refine aa (qa C PySem.F.slot_dict_getitem.lookup ?_);have c:bf (bI X.prog X.w) X.A (subscripted slice ZX (.ref a) u) (λr s₃=>bf (bI X.prog X.w) X.A (letTemporaryGo value (.ref a) r >>= λ_=>pure r) (EP X pins σ Q) X.xe s₃) X.xe s:=by rw[hs];exact wpAny_operating (wpAny_getItem_of (Hz (k:=.inr z) j) B.mapOf S (aa (wpAny_letTemporaryGo (aD ⟨D,H,I.tok _,T,q D (U H)⟩))))
  first
   |exact aD (aa c)
   |exact aa (aD (aa c))
   |exact aa c
 exact gJ (WS O (Qi (v:=.ref a) E h1 rfl) G hs) λσ H Q P=>Z34 P λσ3 m Q3 V W h k=>go (t:=tb) V W h λy u Y Z j l n rs2 e=>by
  cases y with
  |str z=>
   cases j;cases i:vw z with
   |none=>simp only[i]at e
   |some d=>simp only[i]at e;exact⟨rfl,z,d,rfl,i,λv rv=>k _ _ Y Z rv l n e⟩
  |_=>exact e.elim
end
section
variable {P:bF} {w:cD} {K:ab} {mg:Str->Option aq} {base:cQ} {N:List Str} {qual:Str} {sc:gn} {f:ak} {cdv:aq} {A:cB} {outer:List Env} {s:aA} {H:Hp} {x:Str}
def vx(h:4<|S5 sc x=ZY):SU (XF P w K mg base N qual sc f cdv A outer s H).env.scope x:=vf h
def lx(h:4<|NM sc x=ZY):Qh (XF P w K mg base N qual sc f cdv A outer s H).env.scope x:=lf h
def gx(h:4<|Z3 sc x=ZY):Gl (XF P w K mg base N qual sc f cdv A outer s H) x:=gf h
def kx(h:4<|Pv sc x=ZY):(XF P w K mg base N qual sc f cdv A outer s H).env.scope.names.lookup x=Z_ .local:=lkf h
def bx{scope own}(h:4<|VU N sc scope own=ZY):xD (XF P w K mg base N qual sc f cdv A outer s H).N (XF P w K mg base N qual sc f cdv A outer s H).env.scope scope own:=a1o h
variable {X:Cx} {scope:gn} {cl:List (Str×ak)} {C:ak} {fp:List ak}
def vy(h:4<|S5 scope x=ZY):SU (X.blk s H scope (cH scope cl C X.env) fp).env.scope x:=vb h
def ly(h:4<|NM scope x=ZY):Qh (X.blk s H scope (cH scope cl C X.env) fp).env.scope x:=lb h
def gy(h:4<|Z3 scope x=ZY):Gl (X.blk s H scope (cH scope cl C X.env) fp) x:=gb h
def fy(h:4<|NM scope x=ZY):(X.blk s H scope (cH scope cl C X.env) fp).fn x=ZY\/(X.blk s H scope (cH scope cl C X.env) fp).env.scope.names.lookup x=Z_ .local:=fb h
end
section
variable {X:Cx} {e:ck} {ta:jt} {pos:Pos}
def v3(i:Nat){x}(b:1<|X.N[i]?=Z_ x)(c:SU X.env.scope x:=by first|exact vx|exact vy)(d:2<|(x==("__debug__":Str))=ZX)(a:2<|(x==("__classdict__":Str))=ZX):fH X (.Name x pos) (aT i):=pv3 i b c d a
def s3(i:Nat){N ps sc x pos'}(S:bt N ps sc)(he:fH X e ta)(a:1<|X.N=N)(b:1<|X.N[i]?=Z_ x)(c:Qh X.env.scope x:=by exact lx)(hs:1<|me e (Z_ (.Name x pos')) pos.line X.env=pure ZX)(hf:5<|X.fn x=ZY\/X.env.scope.names.lookup x=Z_ .local):ON X (.Assign [.Name x pos'] e pos) (bS i ta):=W4 (by rw[a];exact S.nd) b c he (hs:=hs) (hf:=hf)
def g3(i:Nat){N ps sc x}(S:bt N ps sc)(a:1<|X.N=N)(b:1<|X.N[i]?=Z_ x)(c:Qh X.env.scope x:=by exact lx)(hf:5<|X.fn x=ZY\/X.env.scope.names.lookup x=Z_ .local):PG X (.Name x pos) (xB i):=Qk (by rw[a];exact S.nd) b c hf
def JK(i:Nat){N ps sc x}(S:bt N ps sc)(a:1<|X.N=N)(b:1<|X.N[i]?=Z_ x)(c:Qh X.env.scope x:=by exact ly)(hf:X.fn x=ZY\/X.env.scope.names.lookup x=Z_ .local:=by exact fy):PG X (.Name x pos) (xB i):=Qk (by rw[a];exact S.nd) b c hf
def hm{j k:Nat}{A}(h:jw k A)(e:2<|j<=k):jw j A:=h.mono e
def fl{f}(he:fH X e ta)(hf:2<|f∈HI)(a:1<|g6 e f X.env (dh e X.env)=dh e X.env):fH X (.Attribute e f pos) (bJ f ta):=W5 hf he a
end
def jU{N P:List Str}{sc:gn}(h1:1<|sc.kind=.function)(a:1<|sc.isCoroutine=ZX)(b:1<|sc.isGenerator=ZX)(c:4<|N.Nodup)(d:1<|N.take P.length=P)
  (g:4<|∀x∈P,sc.names.lookup x=Z_ .local\/sc.names.lookup x=Z_ .cell)(h:4<|∀y∈sc.names,y.2≠.free):bt N P sc:=⟨h1,a,b,c,d,g,h⟩
section
variable {X:Cx} {tg iter elt e:ck} {es ifs:List ck} {body:List cR} {scope:gn} {pos:Pos} {wi:OO} {T:Tg} {tb:gT} {tt:BB} {te:jt} {own:List (Str×Nat)} {N ps:List Str} {sc:gn}
def oV(a:QE X tg iter wi)(b:PG X tg (T.g2 X.K))(c:CC X body tb)(d:10<|Hq (bI X.prog X.w) X.A X.env X.xe)(g:1<|X.calm=ZY)(hs:3<|∀x,fc iter X.env x=pure x):ON X (.For tg iter body [] pos) (dQ wi T tb):=W6 d g a b c hs
def Z4{c a}(b:OM X c a)(d:CC X body tb)(g:10<|Hq (bI X.prog X.w) X.A X.env X.xe):ON X (.While c body [] pos) (tQ a tb):=RY g b d
def QU(S:bt N ps sc)(a:QE X tg iter wi)(b:∀{s:aA} {H:Hp} {C:ak} {cl:List (Str×ak)} {fp:List ak},PG (X.blk s H scope (cH scope cl C X.env) fp) tg (T.g2 X.K))(c:∀{s:aA} {H:Hp} {C:ak} {cl:List (Str×ak)} {fp:List ak},Pk (X.blk s H scope (cH scope cl C X.env) fp) ifs tt)
  (he:∀{s:aA} {H:Hp} {C:ak} {cl:List (Str×ak)} {fp:List ak},fH (X.blk s H scope (cH scope cl C X.env) fp) elt te)(d:1<|X.N=N)(ok:xD X.N X.env.scope scope own:=by exact bx)(g:2<|∀i∈T.slots,i∈own.map (·.2))(h:1<|X.calm=ZY)(hs:3<|∀x,fc iter X.env x=pure x) :
  fH X (.ListComp elt [⟨tg,iter,ifs,0⟩] scope pos) (ku wi T tt te (own.map (·.2))):=Yk h (by rw[d];exact S.nd) a ok g (λ_ _ _ _ _=>b) (λ_ _ _ _ _=>c) (λ_ _ _ _ _=>he) hs
def gM{k j n:Nat}{x sp p c}(g:jW X.prog X.w X.K X.mg X.base k x n sp)(d:jw j X.A)(h:Ge X (e::es) c)(i:2<|k<=j)(l:Gl X x:=by first|exact gx|exact gy)(a:2<|(x==("__debug__":Str))=ZX)(he:1<|aU (e::es) X.env=(ZX,dh e X.env)::aU es X.env)(b:1<|(gU pos (aU es X.env)).any (·.1)=ZX):fH X (.Call (.Name x p) (e::es) [] pos) (bw sp c):=nc g (d.mono i) l h a he b
def cM{a b ta tb}{k:Nat}(c:jw k X.A)(d:fH X a ta)(g:fH X b tb)(hs:6<|GT b):fH X (.Subscript a b pos) (bj fZ ta tb):=Ys (fj c) d g hs
end
def dR(t:gT)(N:List Str)(sp:dW):Prop:=∀a m Q,sp a m Q->t {nx:=λ_ b=>Q .non b,rt:=A7 Q} (HW N a) m
structure ek(K:ab)(mg:Str->Option aq)(x:Str)(st:cR)(f:ak):Prop where
 ex:∃fd,mg x=Z_ (.ref f)/\TF K x x st f fd
structure S6(K:ab)(mg:Str->Option aq)(x q:Str)(st:cR)(C:ak):Prop where
 ex:∃f fd,mg x=Z_ (.ref C)/\TF K "__init__" q st f fd/\Mk K C f/\RU K C
section
variable {P:bF} {w:cD} {K:ab} {mg:Str->Option aq} {base:cQ} {x q:Str} {st:cR} {f:ak} {fd:jx} {N ps:List Str} {k n:Nat} {sp:dW} {t:gT} {C:ak}
def all1{α:Type}{P:List α->Prop}(h:∀a,P [a])(us:List α)(e:us.length=1):P us:=by match us,e with|[a],_=>exact h a
def all2{α:Type}{P:List α->Prop}(h:∀a b,P [a,b])(us:List α)(e:us.length=2):P us:=by match us,e with|[a,b],_=>exact h a b
def all3{α:Type}{P:List α->Prop}(h:∀a b c,P [a,b,c])(us:List α)(e:us.length=3):P us:=by match us,e with|[a,b,c],_=>exact h a b c
def all4{α:Type}{P:List α->Prop}(h:∀a b c d,P [a,b,c,d])(us:List α)(e:us.length=4):P us:=by match us,e with|[a,b,c,d],_=>exact h a b c d
def a1q(F:TF K x q st f fd)(S:bt N ps (aY st))(b:∀{cdv:aq} {A:cB} {outer:List Env} {s:aA} {H:Hp},jw k (A.deeper (yj q (aY st) s.heap.objs.size f cdv))->CC (XF P w K mg base N q (aY st) f cdv A outer s H) (lG st) t)
  (c:dR t N sp)(a:∀ds m Q,sp ds m Q->ds.length=ps.length):oU P w K mg base Kr (k+1) f fd ps (l9 K sp):=fn3 F S a (λ_ _ _ _ _ d=>b d) c
def kF(h:ek K mg x st f)(S:bt N ps (aY st))(c:∀{cdv:aq} {A:cB} {outer:List Env} {s:aA} {H:Hp},jw k (A.deeper (yj x (aY st) s.heap.objs.size f cdv))->CC (XF P w K mg base N x (aY st) f cdv A outer s H) (lG st) t)
  (d:dR t N sp)(a:7<|∀ds m Q,sp ds m Q->ds.length=ps.length)(g:8<|∀(kV b i:aq) (j:Option ak) (cdv l:aq) (us:List aq),us.length=ps.length->bindArgs (jq x x (tO st) (lG st) (aY st) .none kV b i j cdv l) ⟨us,[]⟩=pure (ps.zip us)):jW P w K mg base (k+1) x ps.length sp:=by
 obtain⟨fd,h1,F⟩:=h.ex;exact⟨f,fd,ps,h1,a1q F S c d a,F.kp,F.binds g,rfl⟩
def a0A(h:S6 K mg x q st C)(S:bt N ps (aY st))(g:∀{f:ak} {cdv:aq} {A:cB} {outer:List Env} {s:aA} {H:Hp},jw k (A.deeper (yj q (aY st) s.heap.objs.size f cdv))->CC (XF P w K mg base N q (aY st) f cdv A outer s H) (lG st) t)
  (i:dR t N sp)(a:∀ds m Q,sp ds m Q->sp ds m λd m'=>d=.non/\Q d m')(b:7<|∀ds m Q,sp ds m Q->ds.length=ps.length)(j:8<|∀(kV c l:aq) (o:Option ak) (cdv p:aq) (us:List aq),us.length=ps.length->bindArgs (jq "__init__" q (tO st) (lG st) (aY st) .none kV c l o cdv p) ⟨us,[]⟩=pure (ps.zip us)):Yw P w K mg base (k+1) x C sp:=by
 obtain⟨f,fd,h1,F,r,u⟩:=h.ex;exact⟨⟨f,fd,ps,h1,a1q F S g i b,F.binds j,r,u⟩,a⟩
end
section
local macro_rules(kind:=«term[_]»)|s=>z'u (s[1].getNumArgs=1&&s[1][0].isNatLit?.isSome) (Z' s[1] "aT 0")
local macro_rules(kind:=Lean.Parser.Term.paren)|s=>z'u s[1].isNatLit?.isSome (Z' s "cg(D.int 1")
local macro_rules|`(#[$a,*])=>do a.getElems.foldrM (λx y=>`(af $x $(⟨y⟩))) (<-`(aH))
local macro_rules(kind:=«term_∨_»)|s=>Z' s "aP 0 2"
local macro_rules(kind:=«term_∧_»)|s=>Z' s "cu 0 2 dX"
local macro_rules(kind:=«term_^_»)|s=>Z' s "bj fZ 0 2"
local macro_rules(kind:=«term_+_»)|s=>Z' s "bj nA 0 2"
local macro_rules(kind:=«term_-_»)|s=>Z' s "bj BD 0 2"
local macro_rules(kind:=«term_==_»)|s=>Z' s "gz(bj qi 0 2"
local macro_rules(kind:=«term_!=_»)|s=>Z' s "gz(bj RZ 0 2"
local macro_rules(kind:=«term_≥_»)|s=>z'c s "LE.le" "j" "i"
local macro_rules(kind:=«term_<_»)|s=>z'c s "LT.lt" "i" "j"
local macro_rules(kind:=«term_>_»)|s=>z'c s "LT.lt" "j" "i"
local macro_rules(kind:=«term_≤_»)|s=>z'c s "LE.le" "i" "j"
local macro_rules(kind:=«term-_»)|s=>Z' s "dG ie(af 1 aH"
local macro_rules(kind:=«term_/_»)|s=>Z' s "fC(mj ph 0 2"
local macro_rules(kind:=«term_*_»)|s=>Z' s "bw 0 2"
abbrev wq:cR:=top 8
abbrev wt:List Str:=["number", "least", "greatest"]
def JL:bt wt ["number", "least", "greatest"] (aY wq):=jU
def CU:gT:=bz (P8 (bj (jM λi j=>decide (LE.le i j)) [1] [0]) (bj (jM λi j=>decide (LE.le i j)) [0] [2]))
abbrev Ec:cR:=top 9
abbrev Ed:List Str:=["kind"]
def Pw:bt Ed ["kind"] (aY Ec):=jU
def KS:gT:=bz (U0 (bj qi [0] (cg (.str "needs"))) (bj qi [0] (cg (.str "effects"))))
abbrev sj:cR:=top 10
abbrev nV:List Str:=["row", "arguments", "at", "kind", "behind"]
def g_:bt nV ["row"] (aY sj):=jU
def sk(a3O a3m:dW):gT:=M3 (-[0]==(0)) (nh (gz (a3O*#[[0]^(0),(0),-cg A8-(1)])))/\bz (cg .non)\/bS 1 (iJ aH)\/bS 2 (1)\/dQ (cS (cg A8^[0]^(0))) (.one 3) ([2]>=-[0]/\bz (cg .non)\/cu (gz (a3m*#[[3]])) (bS 4 ([2]+(1)+[0]^[2])\/nh (gz (a3O*#[[4],[2]+(1),-[0]]))/\bz (cg .non)\/[1]/Wc [0] ([2]+(1)) [4]\/bS 2 [4]) ([1]/[0]^[2]\/bS 2 ([2]+(1))))\/[2]!=-[0]/\bz (cg .non)\/bz [1]
abbrev H_:cR:=top 11
abbrev I0:List Str:=["numbers", "at"]
def Ee:bt I0 ["numbers"] (aY H_):=jU
def NR:gT:=bz (dG nH #[ku (Pd (0) (-[0])) (.one 1) ib (dG nH #[Wc [0] [1] ([1]+(3))]) [1,]])
abbrev lY:cR:=top 12
abbrev lZ:List Str:=["kind", "three"]
def yR:bt lZ ["kind", "three"] (aY lY):=jU
def rb(a3O:dW):gT:=M3 (nh (gz (a3O*#[[1]^(0),(0),(7)]))) (nh (gz (a3O*#[[1]^(1),(0),(3)])))/\bz (cg (.bl ZX))\/NC ([0]==cg (.str "effects")) ([1]^(1)>=(2))/\bz (a3O*#[[1]^(2),(0),(7)])\/bz (a3O*#[[1]^(2),iB (1000),(1000)])
abbrev mQ:cR:=top 13
abbrev mR:List Str:=["kind", "numbers", "three"]
def l_:bt mR ["kind", "numbers"] (aY mQ):=jU
def sm(a1U a5F:dW):gT:=M3 (-[1]>(30)) (bj Yn (-[1]) (3)!=(0))/\bz (cg (.bl ZX))\/bz (dG (uo λl=>l.all id) #[ku (cS (a1U*#[[1]])) (.one 2) ib (a5F*#[[0],[2]]) [2,]])
abbrev k7:cR:=top 14
abbrev k8:List Str:=["kind", "argument"]
def vz:bt k8 ["kind", "argument"] (aY k7):=jU
def nW(a3m a5B a3O:dW):gT:=gz (a3m*#[[0]])/\bz (a5B*#[[0],[1]])\/bz (a3O*#[[1],Uy [0]^(0),Uy [0]^(1)])
abbrev sr:cR:=top 15
abbrev su:List Str:=["place", "arguments", "kind", "argument"]
def qF:bt su ["place", "arguments"] (aY sr):=jU
def yS(a6b:dW):gT:=dQ (NG (cg A8^[0]) [1]) (.two 2 3) (nh (gz (a6b*#[[2],[3]]))/\bz (cg (.bl ZX)))\/[0]==(1)/\bz (bj (jM λi j=>decide (LT.lt i j)) ([1]^(1)) ([1]^(0)))\/[0]==(5)/\bz (bj (jM λi j=>decide (LE.le i j)) ([1]^(1)) ([1]^(2)))\/bz (cg (.bl ZY))
abbrev BH:cR:=top 21
abbrev BI:List Str:=["puzzle", "variable"]
def NS:bt BI ["puzzle", "variable"] (aY BH):=jU
def Ia:gT:=bz (bj (jM λi j=>decide (LT.lt i j)) [1] (-bJ "sizes" [0]))
abbrev nX:cR:=top 22
abbrev nY:List Str:=["puzzle", "needs", "need"]
def mS:bt nY ["puzzle", "needs"] (aY nX):=jU
def t_(a3U:dW):gT:=bz (dG (uo λl=>l.all id) #[ku (cS [1]) (.one 2) ib (a3U*#[[0],[2]^(0)]) [2,]])
abbrev nZ:cR:=top 23
abbrev n_:List Str:=["puzzle", "effect"]
def BJ:bt n_ ["puzzle", "effect"] (aY nZ):=jU
def u4(a3U:dW):gT:=nh (gz (a3U*#[[0],[1]^(0)]))/\bz (cg (.bl ZX))\/bz (U0 (bj (jM λi j=>decide (LT.lt i j)) ([1]^(1)) (2)) (a3U*#[[0],[1]^(2)]))
abbrev m5:cR:=top 24
abbrev m6:List Str:=["puzzle", "effects", "effect"]
def lh:bt m6 ["puzzle", "effects"] (aY m5):=jU
def rf(a5R:dW):gT:=bz (dG (uo λl=>l.all id) #[ku (cS [1]) (.one 2) ib (a5R*#[[0],[2]]) [2,]])
abbrev qG:cR:=top 25
abbrev qH:List Str:=["puzzle", "arguments"]
def Ef:bt qH ["puzzle", "arguments"] (aY qG):=jU
def xI:gT:=-bJ "sizes" [0]>=(8)/\bz (dP #[iB (4)])\/bJ "sizes" [0]/[1]^(0)\/bJ "begins" [0]/[1]^(1)\/bJ "spans" [0]/l8 #[[1]^(1),[1]^(1)]\/bz (dP #[-bJ "sizes" [0]-(1)])
abbrev wu:cR:=top 26
abbrev wx:List Str:=["puzzle", "arguments", "needs", "effects"]
def uq:bt wx ["puzzle", "arguments"] (aY wu):=jU
def CV(a1U a3Z a5H:dW):gT:=bS 2 (a1U*#[[1]^(0)])\/bS 3 (a1U*#[[1]^(1)])\/M3 (nh (gz (a3Z*#[[0],[2]]))) (nh (gz (a5H*#[[0],[3]])))/\bz (dP #[iB (3)])\/ -bJ "doings" [0]>=(20)/\bz (dP #[iB (4)])\/bJ "doings" [0]/l8 #[[2],[3]]\/bz (dP #[-bJ "doings" [0]-(1)])
abbrev yT:cR:=top 27
abbrev yU:List Str:=["puzzle", "arguments", "needs"]
def CW:bt yU ["puzzle", "arguments"] (aY yT):=jU
def FB(a1U a3Z:dW):gT:=bS 2 (a1U*#[[1]^(0)])\/nh (gz (a3Z*#[[0],[2]]))/\bz (dP #[iB (3)])\/fD "goal" [0] [2]\/bz (dP #[(0)])
abbrev yV:cR:=top 28
abbrev yW:List Str:=["puzzle", "arguments", "needs"]
def CY:bt yW ["puzzle", "arguments"] (aY yV):=jU
def FC(a1U a3U a3Z:dW):gT:=bS 2 (a1U*#[[1]^(1)])\/M3 (nh (gz (a3U*#[[0],[1]^(0)]))) (nh (gz (a3Z*#[[0],[2]])))/\bz (dP #[iB (3)])\/ -bJ "views" [0]>=(20)/\bz (dP #[iB (4)])\/bJ "views" [0]/l8 #[[1]^(0),[2]]\/bz (dP #[(0)])
abbrev yX:cR:=top 29
abbrev yY:List Str:=["puzzle", "arguments", "variable", "least", "greatest"]
def rE:bt yY ["puzzle", "arguments"] (aY yX):=jU
def FD(a3U:dW):gT:=bS 2 ([1]^(0))\/bS 3 ([1]^(1))\/bS 4 ([1]^(2))\/nh (gz (a3U*#[[0],[2]]))/\bz (dP #[iB (3)])\/[4]>=bJ "sizes" [0]^[2]/\bz (dP #[iB (4)])\/M3 (bJ "begins" [0]^[2]<[3]) (bJ "begins" [0]^[2]>[4])/\bz (dP #[iB (5)])\/BF (l8 #[[3],[4]]) (bJ "spans" [0]) [2]\/bz (dP #[(0)])
abbrev qI:cR:=top 30
abbrev qJ:List Str:=["puzzle", "arguments", "needs"]
def vA:bt qJ ["puzzle", "arguments"] (aY qI):=jU
def xJ(a1U a3Z:dW):gT:=bS 2 (a1U*#[[1]^(1)])\/nh (gz (a3Z*#[[0],[2]]))/\bz (dP #[iB (3)])\/ -bJ "facts" [0]>=(12)/\bz (dP #[iB (4)])\/bJ "facts" [0]/l8 #[[1]^(0),[2]]\/bz (dP #[-bJ "facts" [0]-(1)])
abbrev mT:cR:=top 32
abbrev mU:List Str:=["puzzle", "place", "arguments"]
def AH:bt mU ["puzzle", "place", "arguments"] (aY mT):=jU
def sv(G:ak->dW->Prop):gT:=bz (CN G (cg nU^([1]-(1))) #[[0],[2]])
abbrev ur:cR:=GY (top 34) 0
abbrev uu:List Str:=["self"]
def Ib:bt uu ["self"] (aY ur):=jU
def B8:gT:=fD "sizes" [0] (iJ aH)\/fD "begins" [0] (iJ aH)\/fD "spans" [0] (iJ aH)\/fD "doings" [0] (iJ aH)\/fD "goal" [0] (l8 aH)\/fD "views" [0] (iJ aH)\/fD "facts" [0] (iJ aH)
abbrev uv:cR:=top 35
abbrev uw:List Str:=["how", "value", "number"]
def Ic:bt uw ["how", "value", "number"] (aY uv):=jU
def B9:gT:=[0]==(0)/\bz (bj qi [1] [2])\/[0]==(1)/\bz (bj RZ [1] [2])\/[0]==(2)/\bz (bj (jM λi j=>decide (LT.lt i j)) [1] [2])\/bz (bj (jM λi j=>decide (LE.le j i)) [1] [2])
abbrev qK:cR:=top 36
abbrev qL:List Str:=["needs", "state", "variable", "how", "number"]
def lI:bt qL ["needs", "state"] (aY qK):=jU
def xK(a5E:dW):gT:=dQ (cS [0]) (.three 2 3 4) (nh (gz (a5E*#[[3],[1]^[2],[4]]))/\bz (cg (.bl ZX)))\/bz (cg (.bl ZY))
abbrev Ie:cR:=top 37
abbrev Ig:List Str:=["puzzle", "state"]
def S7:bt Ig ["puzzle", "state"] (aY Ie):=jU
def NT(a2d:dW):gT:=bz (a2d*#[bJ "goal" [0],[1]])
abbrev k9:cR:=top 38
abbrev ka:List Str:=["values", "effect", "variable", "how", "number", "changed"]
def fT:bt ka ["values", "effect"] (aY k9):=jU
def o3:gT:=bS 2 ([1]^(0))\/bS 3 ([1]^(1))\/bS 4 ([1]^(2))\/bS 5 (dG Pq #[[0]])\/cu ([3]==(0)) (BF [4] [5] [2]) (cu ([3]==(1)) (BF ([0]^[2]+[4]) [5] [2]) (BF ([0]^[4]) [5] [2]))\/[3]==(3)/\BF ([0]^[2]) [5] [4]\/bz [5]
abbrev kJ:cR:=top 39
abbrev kK:List Str:=["sizes", "values", "size", "value"]
def kb:bt kK ["sizes", "values"] (aY kJ):=jU
def p4:gT:=dQ (NG [0] [1]) (.two 2 3) (M3 ([3]<(0)) ([3]>=[2])/\bz (cg (.bl ZX)))\/bz (cg (.bl ZY))
abbrev sA:cR:=top 40
abbrev sC:List Str:=["puzzle", "doing", "state", "values", "effect"]
def mE:bt sC ["puzzle", "doing", "state"] (aY sA):=jU
def yZ(a2d a5M a5Z:dW):gT:=nh (gz (a2d*#[[1]^(0),[2]]))/\bz (cg .non)\/bS 3 (dG KB #[[2]])\/dQ (cS ([1]^(1))) (.one 4) (bS 3 (a5M*#[[3],[4]])\/nh (gz (a5Z*#[bJ "sizes" [0],[3]]))/\bz (cg .non))\/bz (dG nH #[[3]])
abbrev Eg:cR:=top 41
abbrev Eh:List Str:=["puzzle", "variable", "state", "viewed", "needs"]
def BK:bt Eh ["puzzle", "variable", "state"] (aY Eg):=jU
def KU(a2d:dW):gT:=dQ (cS (bJ "views" [0])) (.two 3 4) (NC ([3]==[1]) (gz (a2d*#[[4],[2]]))/\bz (cg (.bl ZY)))\/bz (cg (.bl ZX))
abbrev sD:cR:=top 42
abbrev sE:List Str:=["puzzle", "state", "row", "variable", "value"]
def mF:bt sE ["puzzle", "state"] (aY sD):=jU
def y_(a5V:dW):gT:=bS 2 (iJ aH)\/dQ (r_ [1]) (.two 3 4) (cu (gz (a5V*#[[0],[3],[1]])) ([2]/(1)\/[2]/[4]) ([2]/(0)))\/bz (dG nH #[[2]])
abbrev o4:cR:=top 43
abbrev o5:List Str:=["puzzle", "count", "least", "greatest"]
def iL:bt o5 ["puzzle"] (aY o4):=jU
def u5:gT:=bS 1 (1)\/dQ (cS (bJ "spans" [0])) (.two 2 3) (bS 1 (bj Ym [1] ([3]-[2]+(1))))\/bz [1]
abbrev kL:cR:=top 44
abbrev kM:List Str:=["puzzle", "states", "least", "greatest", "longer", "state", "value"]
def dF:bt kM ["puzzle"] (aY kL):=jU
def p5:gT:=bS 1 (dP #[l8 aH])\/dQ (cS (bJ "spans" [0])) (.two 2 3) (bS 4 (iJ aH)\/dQ (cS [1]) (.one 5) (dQ (Pc [2] ([3]+(1))) (.one 6) ([4]/([5]+l8 #[[6]])))\/bS 1 [4])\/bz [1]
abbrev jl:cR:=top 45
abbrev jm:List Str:=["puzzle", "seen", "state"]
def gB:bt jm ["puzzle"] (aY jl):=jU
def mm(a5c a6g:dW):gT:=bS 1 (a5c*#[[0],dG nH #[bJ "begins" [0]]])\/bz (dG nH #[ku (cS (a6g*#[[0]])) (.one 2) (a5c*#[[0],[2]]==[1]) [2] [2,]])
abbrev z7:cR:=GY (top 47) 0
abbrev z8:List Str:=["self", "puzzle", "belief", "purse"]
def Md:bt z8 ["self", "puzzle", "belief", "purse"] (aY z7):=jU
def FE:gT:=fD "puzzle" [0] [1]\/fD "actual" [0] (dG nH #[bJ "begins" [1]])\/fD "belief" [0] [2]\/fD "purse" [0] [3]\/fD "past" [0] (iJ aH)\/fD "sights" [0] BE\/fD "trials" [0] BE
abbrev Ei:cR:=top 48
abbrev Ej:List Str:=["play", "state"]
def Px:bt Ej ["play", "state"] (aY Ei):=jU
def KW(a5c:dW):gT:=gz (bj (Ui ZY) [1] (bJ "sights" [0]))/\BG (a5c*#[bJ "puzzle" [0],[1]]) (bJ "sights" [0]) [1]\/bz (bJ "sights" [0]^[1])
abbrev Me:cR:=top 49
abbrev Mf:List Str:=["play", "state", "doing", "behind"]
def NU:bt Mf ["play", "state", "doing"] (aY Me):=jU
def QV(a5Y a4Z:dW):gT:=bS 3 (a5Y*#[bJ "puzzle" [0],[2],[1]])\/gz (xE [3])/\bz (l8 #[l8 #[(0),a4Z*#[[0],[1]]],[1]])\/bz (l8 #[l8 #[(1),a4Z*#[[0],[3]]],[3]])
abbrev z9:cR:=top 50
abbrev zb:List Str:=["play", "state", "doing"]
def wy:bt zb ["play", "state"] (aY z9):=jU
def FF(a0w:dW):gT:=gz (bj (Ui ZY) [1] (bJ "trials" [0]))/\BG (ku (cS (bJ "doings" (bJ "puzzle" [0]))) (.one 2) ib (a0w*#[[0],[1],[2]]) [2,]) (bJ "trials" [0]) [1]\/bz (bJ "trials" [0]^[1])
abbrev lj:cR:=top 51
abbrev ll:List Str:=["play", "belief", "number", "groups", "state", "tried", "group"]
def gE:bt ll ["play", "belief", "number"] (aY lj):=jU
def ql(a2b:dW):gT:=bS 3 BE\/dQ (cS [1]) (.one 4) (bS 5 ((a2b*#[[0],[4]])^[2])\/bS 6 (HV [3] ([5]^(0)) BE)\/BG (cg (.bl ZY)) [6] ([5]^(1)))\/bz [3]
abbrev pj:cR:=top 52
abbrev pk:List Str:=["play", "belief", "number", "groups", "group", "noticed"]
def gV:bt pk ["play", "belief", "number"] (aY pj):=jU
def vB(a5e:dW):gT:=bS 3 (a5e*#[[0],[1],[2]])\/nh (gz (dG (uo λl=>l.any id) #[ku (cS [3]) (.one 5) ib (bj qi ([5]^(0)) (1)) [5,]]))/\bz (dP aH)\/bz (ku (Pi [3]) (.one 4) ib (dG nH #[[4]]) [4,])
abbrev zc:cR:=top 53
abbrev zd:List Str:=["play", "number", "tried", "noticed"]
def wz:bt zd ["play", "number"] (aY zc):=jU
def FG(a2b a5e:dW):gT:=bS 2 ((a2b*#[[0],bJ "actual" [0]])^[1])\/bS 3 ([2]^(0))\/fD "belief" [0] (dG nH #[(a5e*#[[0],bJ "belief" [0],[1]])^[3]])\/fD "actual" [0] ([2]^(1))\/bJ "past" [0]/(l8 #[(0),[1],[3]^(0)]+[3]^(1))\/bz ([3]^(0))
abbrev ux:cR:=top 54
abbrev uz:List Str:=["play", "number", "needs", "state"]
def o6:bt uz ["play", "number"] (aY ux):=jU
def Ba(a2d:dW):gT:=bS 2 ((bJ "facts" (bJ "puzzle" [0])^[1])^(1))\/bz (dG nH #[ku (cS (bJ "belief" [0])) (.one 3) (gz (a2d*#[[2],[3]])) [3] [3,]])
abbrev Ih:cR:=top 55
abbrev Ii:List Str:=["play", "number", "fact"]
def KY:bt Ii ["play", "number"] (aY Ih):=jU
def NV(a2d a4t:dW):gT:=bS 2 (bJ "facts" (bJ "puzzle" [0])^[1])\/nh (gz (a2d*#[[2]^(1),bJ "actual" [0]]))/\bz (1)\/ -(a4t*#[[0],[1]])==-bJ "belief" [0]/\bz (2)\/[2]^(0)>bJ "purse" [0]/\bz (3)\/bz (0)
abbrev ze:cR:=top 56
abbrev zf:List Str:=["play", "number"]
def Mg:bt zf ["play", "number"] (aY ze):=jU
def FH(a4t:dW):gT:=fD "belief" [0] (a4t*#[[0],[1]])\/fD "purse" [0] (bJ "purse" [0]-(bJ "facts" (bJ "puzzle" [0])^[1])^(0))\/bJ "past" [0]/l8 #[(1),[1]]
abbrev pq:cR:=GY (top 58) 0
abbrev pv:List Str:=["self", "room"]
def CZ:bt pv ["self", "room"] (aY pq):=jU
def vC:gT:=fD "room" [0] [1]\/fD "over" [0] (cg (.bl ZX))\/fD "beliefs" [0] (iJ aH)\/fD "ways" [0] (iJ aH)\/fD "numbers" [0] BE
abbrev qM:cR:=top 59
abbrev qN:List Str:=["chart", "belief", "states"]
def vD:bt qN ["chart", "belief"] (aY qM):=jU
def xM:gT:=bS 2 (dG nH #[dG CM #[[1]]])\/gz (bj (Ui ZX) [2] (bJ "numbers" [0]))/\bz (bJ "numbers" [0]^[2])\/ -bJ "beliefs" [0]>=bJ "room" [0]/\(fD "over" [0] (cg (.bl ZY))\/bz (cg .non))\/BG (-bJ "beliefs" [0]) (bJ "numbers" [0]) [2]\/bJ "beliefs" [0]/[1]\/bz (bJ "numbers" [0]^[2])
abbrev zg:cR:=top 60
abbrev zh:List Str:=["play", "chart", "belief", "ways", "doing", "reached", "led"]
def o7:bt zh ["play", "chart", "belief"] (aY zg):=jU
def FI(a5S a5j:dW):gT:=bS 3 (iJ aH)\/dQ (Pb (-bJ "doings" (bJ "puzzle" [0]))) (.one 4) (bS 5 (ku (cS (a5S*#[[0],[2],[4]])) (.one 6) ib (a5j*#[[1],[6]]) [6,])\/NC (-[5]>(0)) (gz (bj (Ui ZY) (cg .non) [5]))/\[3]/l8 #[[4],[5]])\/bz [3]
abbrev Ek:cR:=top 61
abbrev El:List Str:=["play", "belief", "room", "chart", "at"]
def wA:bt El ["play", "belief", "room"] (aY Ek):=jU
def KZ(a5w a5j a6j:dW)(C_BeliefMap:ak):gT:=bS 3 (wg C_BeliefMap a5w #[[2]])\/fC (a5j*#[[3],[1]])\/bS 4 (0)\/tQ ([4]< -bJ "beliefs" [3]) (bJ "ways" [3]/(a6j*#[[0],[3],bJ "beliefs" [3]^[4]])\/bS 4 ([4]+(1)))\/bz [3]
abbrev uA:cR:=top 62
abbrev uB:List Str:=["play", "belief", "state"]
def sF:bt uB ["play", "belief"] (aY uA):=jU
def Bb(a5q:dW):gT:=bz (dG (uo λl=>l.all id) #[ku (cS [1]) (.one 2) ib (a5q*#[bJ "puzzle" [0],[2]]) [2,]])
abbrev sG:cR:=top 63
abbrev sH:List Str:=["ways", "levels", "doing", "reached", "number"]
def ky:bt sH ["ways", "levels"] (aY sG):=jU
def zi:gT:=dQ (cS [0]) (.two 2 3) (gz (dG (uo λl=>l.all id) #[ku (cS [3]) (.one 4) ib (BC ([1]^[4])) [4,]])/\bz (cg (.bl ZY)))\/bz (cg (.bl ZX))
abbrev zj:cR:=top 64
abbrev zk:List Str:=["play", "chart", "levels", "level", "is_growing", "found", "number", "belief", "ways"]
def fI:bt zk ["play", "chart"] (aY zj):=jU
def FJ(a5G a5J:dW):gT:=bS 2 (Kz (cS (bJ "beliefs" [1])) (.one 7) ib (W3 (gz (a5G*#[[0],[7]])) (0) (cg .non)) [7,])\/bS 3 (0)\/bS 4 (cg (.bl ZY))\/tQ (gz [4]) (bS 3 ([3]+(1))\/bS 5 (ku (r_ (bJ "ways" [1])) (.two 6 8) (NC (gz (xE ([2]^[6]))) (gz (a5J*#[[8],[2]]))) [6] [6,8])\/dQ (cS [5]) (.one 6) (BF [3] [2] [6])\/bS 4 (bj (jM λi j=>decide (LT.lt j i)) (-[5]) (0)))\/bz [2]
abbrev pz:cR:=top 65
abbrev pA:List Str:=["reached", "levels", "level", "depths", "number"]
def o8:bt pA ["reached", "levels", "level"] (aY pz):=jU
def vE:gT:=bS 3 (ku (cS [0]) (.one 4) ib ([1]^[4]) [4,])\/bz (P8 (bj (Ui ZY) (cg .non) [3]) (bj qi (dG Yv #[[3]]) ([2]-(1))))
abbrev Em:cR:=top 66
abbrev En:List Str:=["chart", "levels", "number", "doing", "reached"]
def BL:bt En ["chart", "levels", "number"] (aY Em):=jU
def K_(a5Q:dW):gT:=dQ (cS (bJ "ways" [0]^[2])) (.two 3 4) (gz (a5Q*#[[4],[1],[1]^[2]])/\bz (l8 #[[3],[4]]))\/bz (cg .non)
abbrev uC:cR:=top 67
abbrev uD:List Str:=["chart", "levels", "row", "at", "way", "number"]
def jN:bt uD ["chart", "levels"] (aY uC):=jU
def Bc(a4y:dW):gT:=bS 2 (iJ #[(0)])\/bS 3 (0)\/tQ ([3]< -[2]) (bS 4 (a4y*#[[0],[1],[2]^[3]])\/gz (BC [4])/\dQ (cS ([4]^(1))) (.one 5) (gz (bj (Ui ZY) [5] [2])/\[2]/[5])\/bS 3 ([3]+(1)))\/bz [2]
abbrev wB:cR:=top 68
abbrev wC:List Str:=["play", "belief", "room", "chart"]
def Bd:bt wC ["play", "belief", "room"] (aY wB):=jU
def C_(a1S a1Z:dW):gT:=bS 3 (a1S*#[[0],[1],[2]])\/gz (bJ "over" [3])/\bz (cg .non)\/bz ((a1Z*#[[0],[3]])^(0))
abbrev sI:cR:=top 69
abbrev sJ:List Str:=["play", "room", "tellable", "number", "fact", "lost", "price", "level"]
def gs:bt sJ ["play", "room"] (aY sI):=jU
def zm(a4u a4t a6i:dW):gT:=bS 2 (iJ aH)\/dQ (r_ (bJ "facts" (bJ "puzzle" [0]))) (.two 3 4) (a4u*#[[0],[3]]==(0)/\[2]/l8 #[(0)- -(a4t*#[[0],[3]]),[4]^(0),[3]])\/dQ (cS (dG CM #[[2]])) (.three 5 6 3) (bS 7 (a6i*#[[0],a4t*#[[0],[3]],[1]])\/gz (BC [7])/\bz (l8 #[[3],(0)-[5],[6],[7]]))\/bz (cg .non)
abbrev o9:cR:=top 72
abbrev og:List Str:=["play", "reach", "places", "at", "tried", "noticed", "behind"]
def eU:bt og ["play"] (aY o9):=jU
def u6(a2b:dW):gT:=bS 1 (iJ #[bJ "actual" [0]])\/bS 2 (QS (bJ "actual" [0]) (cg (.bl ZY)))\/bS 3 (0)\/tQ ([3]< -[1]) (bS 4 (a2b*#[[0],[1]^[3]])\/dQ (cS [4]) (.two 5 6) (gz (bj (Ui ZY) [6] [2])/\(BG (cg (.bl ZY)) [2] [6]\/[1]/[6]))\/ -[1]>(200)/\bz (cg .non)\/bS 3 ([3]+(1)))\/bz [1]
abbrev qO:cR:=top 73
abbrev qP:List Str:=["play", "reach", "before", "state", "noticed", "behind"]
def jO:bt qP ["play", "reach"] (aY qO):=jU
def xN(a2b:dW):gT:=bS 2 BE\/dQ (cS [1]) (.one 3) (dQ (cS (a2b*#[[0],[3]])) (.two 4 5) (HV [2] [5] (iJ aH)/[3]))\/bz [2]
abbrev mV:cR:=top 74
abbrev mW:List Str:=["play", "reach", "before", "row", "distances", "at", "farther", "earlier", "state"]
def cW:bt mW ["play", "reach"] (aY mV):=jU
def sL(a6e a5q:dW):gT:=bS 2 (a6e*#[[0],[1]])\/bS 3 (Kz (cS [1]) (.one 8) (gz (a5q*#[bJ "puzzle" [0],[8]])) [8] [8,])\/bS 4 (dG Pt #[ku (cS [3]) (.one 8) ib (l8 #[[8],(0)]) [8,]])\/bS 5 (0)\/tQ ([5]< -[3]) (bS 6 ([4]^[3]^[5]+(1))\/bS 7 (Uq [2] ([3]^[5]) (dP aH))\/dQ (cS [7]) (.one 8) (gz (bj (Ui ZY) [8] [4])/\(BG [6] [4] [8]\/[3]/[8]))\/bS 5 ([5]+(1)))\/bz [4]
abbrev BM:cR:=top 75
abbrev BN:List Str:=["play", "reach", "distances", "distance", "doing", "tried"]
def nk:bt BN ["play"] (aY BM):=jU
def Ij(a6c a6a a2b:dW):gT:=bS 1 (a6c*#[[0]])\/gz (xE [1])/\bz (cg .non)\/bS 2 (a6a*#[[0],[1]])\/gz (bj (Ui ZY) (bJ "actual" [0]) [2])/\bz (l8 #[iB (1),(0)])\/bS 3 ([2]^bJ "actual" [0])\/dQ (r_ (a2b*#[[0],bJ "actual" [0]])) (.two 4 5) (Up [2] ([5]^(1))==[3]-(1)/\bz (l8 #[[3],[4]+(1)]))\/bz (l8 #[[3],(0)])
abbrev wD:cR:=top 79
abbrev wF:List Str:=["numbers"]
def JM:bt wF ["numbers"] (aY wD):=jU
def D0:gT:=bz (dP #[-[0]]+dG KB #[[0]])
abbrev uE:cR:=top 80
abbrev uF:List Str:=["play", "arguments", "done"]
def zo:bt uF ["play", "arguments"] (aY uE):=jU
def Be(a5I:dW):gT:=[1]^(0)>=-bJ "doings" (bJ "puzzle" [0])/\bz (dP #[iB (3)])\/ -bJ "past" [0]>=(200)/\bz (dP #[iB (4)])\/bS 2 (a5I*#[[0],[1]^(0)])\/bz (dP #[[2],-bJ "belief" [0]])
abbrev uG:cR:=top 81
abbrev uH:List Str:=["play", "arguments"]
def Ik:bt uH ["play", "arguments"] (aY uG):=jU
def Bf(a4Z a4a:dW):gT:=bz (a4a*#[a4Z*#[[0],bJ "actual" [0]]])
abbrev qQ:cR:=top 82
abbrev qR:List Str:=["play", "arguments", "answer", "state"]
def pB:bt qR ["play", "arguments"] (aY qQ):=jU
def xO:gT:=bS 2 (iJ #[-bJ "belief" [0]])\/dQ (cS (bJ "belief" [0])) (.one 3) (fC (mj S2 [2] [3]))\/bz [2]
abbrev sM:cR:=top 83
abbrev sN:List Str:=["play", "arguments", "pairs", "variable", "value", "state"]
def iZ:bt sN ["play", "arguments"] (aY sM):=jU
def zq:gT:=bS 2 (iJ aH)\/dQ (r_ (bJ "belief" [0]^(0))) (.two 3 4) (gz (dG (uo λl=>l.all id) #[ku (cS (bJ "belief" [0])) (.one 5) ib (bj qi ([5]^[3]) [4]) [5,]])/\([2]/[3]\/[2]/[4]))\/bz (dP #[bj Ug (-[2]) (2)]+[2])
abbrev sO:cR:=top 84
abbrev sP:List Str:=["play", "arguments", "chart", "level"]
def qS:bt sP ["play", "arguments"] (aY sO):=jU
def zt(a1S a1Z:dW):gT:=bS 2 (a1S*#[[0],bJ "belief" [0],[1]^(0)])\/gz (bJ "over" [2])/\bz (dP #[iB (6)])\/bS 3 ((a1Z*#[[0],[2]])^(0))\/bz (dP #[W3 (gz (xE [3])) (iB (1)) [3]])
abbrev uI:cR:=top 85
abbrev uJ:List Str:=["play", "arguments", "chart", "levels"]
def sQ:bt uJ ["play", "arguments"] (aY uI):=jU
def Bh(a1S a1Z a4y:dW):gT:=bS 2 (a1S*#[[0],bJ "belief" [0],[1]^(0)])\/gz (bJ "over" [2])/\bz (dP #[iB (6)])\/bS 3 (a1Z*#[[0],[2]])\/M3 (gz (xE ([3]^(0)))) ([3]^(0)==(0))/\bz (dP #[(0)])\/bz (dP #[(1),(a4y*#[[2],[3],(0)])^(0)])
abbrev sR:cR:=top 86
abbrev sS:List Str:=["play", "arguments", "sight"]
def xP:bt sS ["play", "arguments"] (aY sR):=jU
def zu(a6d:dW):gT:=bS 2 (a6d*#[[0]])\/gz (xE [2])/\bz (dP #[iB (6)])\/bz (dG KB #[[2]])
abbrev wG:cR:=top 87
abbrev wH:List Str:=["play", "arguments"]
def JN:bt wH ["play", "arguments"] (aY wG):=jU
def D1(a4u:dW):gT:=[1]^(0)>=-bJ "facts" (bJ "puzzle" [0])/\bz (dP #[iB (3)])\/bz (dP #[a4u*#[[0],[1]^(0)]])
abbrev uK:cR:=top 88
abbrev uL:List Str:=["play", "arguments", "number", "bar"]
def sT:bt uL ["play", "arguments"] (aY uK):=jU
def Bi(a4u a5P:dW):gT:=bS 2 ([1]^(0))\/[2]>=-bJ "facts" (bJ "puzzle" [0])/\bz (dP #[iB (3)])\/bS 3 (a4u*#[[0],[2]])\/[3]!=(0)/\bz (dP #[cg nR^[3]])\/ -bJ "past" [0]>=(200)/\bz (dP #[iB (4)])\/fC (a5P*#[[0],[2]])\/bz (dP #[-bJ "belief" [0]])
abbrev uM:cR:=top 89
abbrev uN:List Str:=["play", "arguments", "chart", "level", "weakest"]
def oh:bt uN ["play", "arguments"] (aY uM):=jU
def Bj(a1S a1Z a5X:dW):gT:=bS 2 (a1S*#[[0],bJ "belief" [0],[1]^(0)])\/gz (bJ "over" [2])/\bz (dP #[iB (6)])\/bS 3 ((a1Z*#[[0],[2]])^(0))\/gz (BC [3])/\bz (dP #[(2),[3]])\/bS 4 (a5X*#[[0],[1]^(0)])\/gz (xE [4])/\bz (dP #[(0)])\/bz (dP #[(1)]+dG KB #[[4]])
abbrev wI:cR:=top 90
abbrev wJ:List Str:=["play", "arguments", "chart", "doings", "ways"]
def mn:bt wJ ["play", "arguments"] (aY wI):=jU
def D2(a1S:dW):gT:=bS 2 (a1S*#[[0],bJ "belief" [0],[1]^(0)])\/bS 3 (dG Yu #[ku (cS (bJ "ways" [2])) (.one 4) ib (-[4]) [4,]])\/bz (dP #[-bJ "beliefs" [2],W3 (gz (bJ "over" [2])) (1) (0),[3]])
abbrev pC:cR:=top 91
abbrev pD:List Str:=["chart", "levels", "row", "number", "entry", "way", "places", "led"]
def je:bt pD ["chart", "levels", "row", "number"] (aY pC):=jU
def vF(a4y a4a:dW):gT:=bS 4 (dP #[-bJ "beliefs" [0]^[3],[1]^[3]])\/bS 5 (a4y*#[[0],[1],[3]])\/gz (xE [5])/\bz ([4]+dP #[iB (1),(0)])\/bS 6 (ku (cS ([5]^(1))) (.one 7) ib (X5 [2] [7]) [7,])\/bz ([4]+dP #[[5]^(0)]+a4a*#[[6]])
abbrev oj:cR:=top 92
abbrev om:List Str:=["play", "arguments", "chart", "levels", "row", "answer", "number"]
def gH:bt om ["play", "arguments"] (aY oj):=jU
def u7(a1S a1Z a5W a6f:dW):gT:=bS 2 (a1S*#[[0],bJ "belief" [0],[1]^(0)])\/gz (bJ "over" [2])/\bz (dP #[iB (6)])\/bS 3 (a1Z*#[[0],[2]])\/gz (xE ([3]^(0)))/\bz (dP #[iB (4)])\/bS 4 (a5W*#[[2],[3]])\/bS 5 (iJ #[-[4]])\/dQ (cS [4]) (.one 6) (fC (mj S2 [5] (a6f*#[[2],[3],[4],[6]])))\/bz [5]
abbrev qT:cR:=top 93
abbrev qU:List Str:=["play", "arguments"]
def Eo:bt qU ["play", "arguments"] (aY qT):=jU
def xQ(a4a:dW):gT:=bz (a4a*#[bJ "actual" [0]])
abbrev uO:cR:=top 94
abbrev uP:List Str:=["play", "arguments", "answer", "entry"]
def sU:bt uP ["play", "arguments"] (aY uO):=jU
def Bk(a4a:dW):gT:=bS 2 (iJ #[-bJ "past" [0]])\/dQ (cS (bJ "past" [0])) (.one 3) (fC (mj S2 [2] (a4a*#[[3]])))\/bz [2]
abbrev sV:cR:=top 95
abbrev sW:List Str:=["play", "arguments"]
def Gf:bt sW ["play", "arguments"] (aY sV):=jU
def zv:gT:=bz (dP #[bJ "purse" [0]])
abbrev pE:cR:=top 97
abbrev pF:List Str:=["play", "place", "arguments"]
def D3:bt pF ["play", "place", "arguments"] (aY pE):=jU
def vG(G:ak->dW->Prop):gT:=bz (CN G (cg rD^([1]-(7)-(1))) #[[0],[2]])
abbrev zw:cR:=GY (top 101) 0
abbrev zz:List Str:=["self"]
def Mh:bt zz ["self"] (aY zw):=jU
def FK(a4U:dW)(C_Puzzle:ak):gT:=fD "puzzle" [0] (wg C_Puzzle a4U aH)\/fD "play" [0] (cg .non)
abbrev wK:cR:=top 102
abbrev wL:List Str:=["game"]
def JO:bt wL ["game"] (aY wK):=jU
def D4(a4U:dW)(C_Puzzle:ak):gT:=fD "puzzle" [0] (wg C_Puzzle a4U aH)\/fD "play" [0] (cg .non)\/bz (dP #[(0)])
abbrev sX:cR:=top 103
abbrev sY:List Str:=["game", "place", "arguments", "answer"]
def xR:bt sY ["game", "place", "arguments"] (aY sX):=jU
def zA(a5m:dW):gT:=bS 3 (a5m*#[bJ "puzzle" [0],[1],[2]])\/[3]^(0)>=(0)/\fD "play" [0] (cg .non)\/bz [3]
abbrev wM:cR:=top 104
abbrev wN:List Str:=["game", "purse", "belief"]
def Bl:bt wN ["game", "purse"] (aY wM):=jU
def D5(a6h a5K a5x:dW)(C_Play:ak):gT:=a6h*#[bJ "puzzle" [0]]>(400)/\bz (dP #[iB (4)])\/bS 2 (a5K*#[bJ "puzzle" [0]])\/ -[2]>(40)/\bz (dP #[iB (5)])\/fD "play" [0] (wg C_Play a5x #[bJ "puzzle" [0],[2],[1]])\/bz (dP #[-[2]])
abbrev zB:cR:=top 105
abbrev zC:List Str:=["game", "row", "arguments", "place"]
def wO:bt zC ["game", "row"] (aY zB):=jU
def FL(a5O a6k a5L a5T a5N a5t:dW):gT:=bS 2 (a5O*#[[1]])\/gz (xE [2])/\bz (dP #[iB (100)])\/bS 3 ([1]^(0))\/nh (gz (a6k*#[[3],[2]]))/\(bz (dP (af (iB (cg (.int 1))) aH)))\/[3]==(0)/\bz (a5L*#[[0]])\/[3]<(7)/\bz (a5T*#[[0],[3],[2]])\/[3]==(7)/\bz (a5N*#[[0],[2]^(0)])\/gz (xE (bJ "play" [0]))/\bz (dP #[iB (2)])\/bz (a5t*#[bJ "play" [0],[3],[2]])
abbrev A9:cR:=top 106
abbrev Ep:List Str:=["calls", "game", "answered", "at", "behind", "answer"]
def mX:bt Ep ["calls"] (aY A9):=jU
def L0(a5r a5U:dW)(C_Game:ak):gT:=bS 1 (wg C_Game a5r aH)\/bS 2 (iJ aH)\/bS 3 (0)\/tQ ([3]< -[0]) (bS 4 ([3]+(2)+[0]^([3]+(1)))\/bS 5 (a5U*#[[1],Wc [0] ([3]+(2)) [4]])\/[2]/ -[5]\/fC (mj S2 [2] [5])\/bS 3 [4])\/bz [2]
end
def A7.ret{Q d m}(q:Q d m):A7 Q d m:=.done (Cj.refl m) q
def A7.sub{Q d m m'}(s:Cj m' m)(q:Q d m'):A7 Q d m:=.done s q
def A7.out{Q a l m0 m}(e:m a=Z_ (.lst l))(hf:m0 a=ZZ)(s:∀b o,m0 b=Z_ o->b≠a->m b=Z_ o)(q:Q (.lst l) m0):A7 Q (.ref a) m:=
 .lst a l e (.inr ⟨rfl,rfl⟩) (λb o h=>by
  have c:b≠a:=by intro z;subst z;rw[hf]at h;cases h
  exact⟨c,o,s b o h c,.same⟩) (.ret q)
def A7.new{Q a l m0}(hf:m0 a=ZZ)(q:Q (.lst l) m0):A7 Q (.ref a) (bQ m0 a (.lst l)):=.out aS hf (λb o h c=>by rwa[ao c]) q
section
variable {m:M} {l:List D} {a:ak} {kvs:List (K2×D)} {i:Int}
def S8:ej m (.lst l)=Z_ l:=rfl
def Z5:ej m (.tup l)=ZZ:=rfl
def Yz:ej m (.mtup l)=ZZ:=rfl
def Z6:ej m (.int i)=ZZ:=rfl
def fU(h:m a=Z_ (.lst l)):ej m (.ref a)=Z_ l:=by simp only[ej,h]
def S9:Fq (.lst l)=ZZ:=rfl
def Z7:Fq (.tup l)=Z_ l:=rfl
def YA:Fq (.mtup l)=Z_ l:=rfl
def Sa:Fq (.ref a)=ZZ:=rfl
def Sb:yI m (.lst l)=Z_ l:=rfl
def Er:yI m (.tup l)=Z_ l:=rfl
def YB:yI m (.mtup l)=Z_ l:=rfl
def f7(h:m a=Z_ (.lst l)):yI m (.ref a)=Z_ l:=fU h
def jT:JJ m (.lst l)=Z_ l:=rfl
def d_:JJ m (.tup l)=Z_ l:=rfl
def cz(h:m a=Z_ (.lst l)):JJ m (.ref a)=Z_ l:=fU h
def Py:eK m (.lst l)=ZZ:=rfl
def YC:eK m (.tup l)=ZZ:=rfl
def X7:eK m (.mtup l)=ZZ:=rfl
def Il:eK m (.dic kvs)=Z_ kvs:=rfl
def iM(h:m a=Z_ (.dic kvs)):eK m (.ref a)=Z_ kvs:=by simp only[eK,h]
def L1:ej (bQ m a (.lst l)) (.ref a)=Z_ l:=fU aS
def L4:yI (bQ m a (.lst l)) (.ref a)=Z_ l:=fU aS
def aM:JJ (bQ m a (.lst l)) (.ref a)=Z_ l:=fU aS
def Pz:eK (bQ m a (.dic kvs)) (.ref a)=Z_ kvs:=iM aS
def FM:eK (bQ m a (.lst l)) (.ref a)=ZZ:=by simp only[eK,aS]
def jf(h:m a=Z_ (.lst l)):eK m (.ref a)=ZZ:=by simp only[eK,h]
end
def Uz{m x l}(h:ej m x=Z_ l):∃J,f_ m x=Z_ J/\J.items=l/\∀d,ej d x=Z_ l->J.ok d:=by
 cases x with
 |lst c=>cases h;exact⟨_,rfl,rfl,λ_ _=>trivial⟩
 |ref a=>
  cases hm:m a with
  |none=>simp[ej,hm]at h
  |some o=>
   cases o with
   |lst c=>
    have:c=l:=by simpa[ej,hm] using h
    subst this;refine⟨⟨c,λm=>m a=Z_ (.lst c)⟩,by simp[f_,hm],rfl,λd e=>?_⟩;cases b:d a with
    |none=>simp[ej,b]at e
    |some o=>
     cases o with
     |lst f=>
      have:f=c:=by simpa[ej,b] using e
      subst this;exact b
     |_=>simp[ej,b]at e
   |_=>simp[ej,hm]at h
 |_=>cases h
def Aa{m x l p o}(h:ej m x=Z_ l)(b:m p=ZZ):ej (bQ m p o) x=Z_ l:=by
 cases x with
 |lst l'=>exact h
 |ref a=>
  have c:a≠p:=by intro e;subst e;simp[ej,b]at h
  simp only[ej,ao c]at h ⊢;exact h
 |_=>cases h
def dI(l:List Int):List D:=l.map D.int
def eN(n:Nat):D:=.int (n:Int)
def dN(l:List Nat):List D:=l.map eN
def ke(l:List Int):(dI l).length=l.length:=by simp[dI]
def fF(l:List Nat):(dN l).length=l.length:=by simp[dN]
def Im{r}{i:Nat}{x:Nat}(h:r[i]?=Z_ x):tL (dN r) (i:Int)=Z_ (.int (x:Int)):=d9 (by simp[dN,h,eN])
def gF{d:D}{l:List D}:tL (d::l) 0=Z_ d:=d9 (j:=0) rfl
def lT{c d:D}{l:List D}:tL (c::d::l) 1=Z_ d:=d9 (j:=1) rfl
def NW{b c d:D}{l:List D}:tL (b::c::d::l) 2=Z_ d:=d9 (j:=2) rfl
def Es(l:List Int):jL (dI l)=Z_ l:=HP l
def YD{r:List Int}{i j:Nat}(h1:i<=j)(b:j<=r.length):E8 (dI r) (i:Int) (j:Int)=dI ((r.drop i).take (j-i)):=by unfold E8;rw[ke];simp only[bA,Bs b,Bs (c6 h1 b)];unfold dI;rw[List.map_take,List.map_drop]
def dY{b:Bool}{A B:Prop}(h1:b=ZY->A)(c:b=ZX->B):if b=ZY then A else B:=by
 cases b with
 |true=>rw[i0p rfl];exact h1 rfl
 |false=>rw[i0n aB];exact c rfl
def PB{b:Bool}(h:(!b)=ZY):b=ZX:=by cases b<;>simp_all
def S_{b:Bool}(h:(!b)=ZX):b=ZY:=by cases b<;>simp_all
def rh{α β:Type}{f:α->Option β}{g:α->β}:∀{l:List α},(∀x∈l,f x=Z_ (g x))->l.filterMap f=l.map g
 |[],_=>rfl
 |x::l,h=>by rw[dD,h x (by simp),aQ,rh λy b=>h y (by simp[b])]
def oo{α β:Type}(g:α->Option β){l:List α}{i:Nat}{d}(h:l[i]?=Z_ d):(l.take (i+1)).filterMap g=(l.take i).filterMap g++(g d).toList:=by
 obtain⟨b,rfl⟩:=ax.mp h;rw[Hu b,List.filterMap_append];cases c:g l[i] with
 |none=>simp[c]
 |some e=>simp[c]
def lcR{J:RW}{T:Tg}{tt te σ2 p m fin}(g:D->Option D)(cq:M->Prop)(u:cq (bQ m p (.lst [])))(n:∀m' acc,cq m'->cq (bQ m' p (.lst acc)))(ok:∀m',cq m'->J.ok m')
  (turn:∀d∈J.items,∀m' acc,cq m'->m' p=Z_ (.lst acc)->∀(A:D->M->Prop) (B:M->Prop),(∀e c,g d=Z_ e->cq c->c p=Z_ (.lst acc)->A e c)->(∀c,g d=ZZ->cq c->c p=Z_ (.lst acc)->B c) ->
   T.set d σ2 λσ2=>tt σ2 m' λb t=>if b=ZY then te σ2 t A else B t)
  (q:∀m',cq m'->m' p=Z_ (.lst (J.items.filterMap g))->fin (J.items.filterMap g) m'):A4 J T tt te σ2 p m fin:=by
 refine⟨λi acc m'=>acc=(J.items.take i).filterMap g/\cq m'/\m' p=Z_ (.lst acc),⟨rfl,u,aS⟩,λi acc m' _ h=>⟨h.2.2,ok m' h.2.1⟩,λi d acc m' o ⟨k,r,hm⟩=>?_,λacc m' ⟨k,r,hm⟩=>?_⟩
 .refine turn d (aJ o) m' acc r hm _ _ (λe c s f j=>⟨j,?_,n _ _ f,aS⟩) λc s f j=>⟨?_,f,j⟩
  .rw[oo g o,<-k,s];rfl
  .rw[oo g o,<-k,s];simp
 .rw[cO]at k;subst k;exact q m' r hm
def a0a{J:RW}{T:Tg}{tt te σ2 p m fin}(j:m p=ZZ)(g:D->Option D)(ok:∀m',Cj m m'->J.ok m')
  (turn:∀d∈J.items,∀m',Cj m m'->∀(A:D->M->Prop) (B:M->Prop),(∀e,g d=Z_ e->A e m')->(g d=ZZ->B m')->T.set d σ2 λσ2=>tt σ2 m' λb k=>if b=ZY then te σ2 k A else B k)
  (q:fin (J.items.filterMap g) (bQ m p (.lst (J.items.filterMap g)))):A4 J T tt te σ2 p m fin:=
 lcR g (λm'=>∃c,m'=bQ m p (.lst c)) ⟨_,rfl⟩ (λm' c ⟨a,e⟩=>⟨c,by rw[e,cy]⟩) (λm' ⟨a,e⟩=>ok m' (by rw[e];exact Cj.new j))
  (λd n m' c f hm A B o r=>turn d n m' (by obtain⟨a,e⟩:=f;rw[e];exact Cj.new j) A B (λe h=>o e m' h f hm) λh=>r m' h f hm)
  λm' ⟨a,e⟩ hm=>by subst e;rw[aS]at hm;cases hm;exact q
def VG{α β:Type}{l:List α}{f:α->β}{i:Nat}{d:β}(h:(l.map f)[i]?=Z_ d):∃x,l[i]?=Z_ x/\d=f x:=by rw[aR]at h;obtain⟨x,h1,b⟩:=gu.mp h;exact⟨x,h1,b.symm⟩
local macro_rules
 |`(tactic| dsimp[$a,*] $[$l]?)=>do
  let b:=("a6o kS aP dX fC bz cu bS aT cg bj gz nh NC M3 P8 U0 W3 xE BC rZ iB l8 dP iJ aH af bw dG Wc bJ mj fD BF BG Up Uq HV X5 BE QS wg Uy ph S2 a1l jM qi a0z RZ BD Ym Ug Yn nA fZ Ui ie KB Pq nH uo Yu Yv CM Pt NJ KA Sb Er YB f7 S8 Z5 Yz fU Z6 Py YC X7 Il iM S9 Z7 YA Sa jT d_ cz L1 L4 aM Pz FM Tg.set aS yp yq G8 v9 aZ List.length_nil HW aQ Av qc List.cons_append oP Nat.reduceSub Nat.reduceAdd Nat.reduceLeDiff Nat.reduceLT gj if_true if_false iY reduceCtorEq bR xW Bool.not_false decide_true decide_false Option.isSome_some Option.isSome_none".splitOn " ").toArray.map λx=>Lean.mkIdent x.toName
  `(tactic| simp -dsimp only[$[$b:term],*,$a,*] $[$l]?)
variable(A':List D)(B':M)(D':qE)
inductive a3O:Prop|mk (a b c:Int):A'=[.int a,.int b,.int c]->D' (.bl (decide (b<=a)&&decide (a<=c))) B'->a3O
def pV{a b c:Int}{m Q}:a3O [.int a,.int b,.int c] m Q=Q (.bl (decide (b<=a)&&decide (a<=c))) m:=by refine propext ⟨?_,λh=>⟨a,b,c,rfl,h⟩⟩;rintro⟨a',b',c',e,h⟩;cases e;exact h
nonrec def JP:dR CU wt a3O:=by
 intro ds m Q h;obtain⟨a,b,c,rfl,q⟩:=h;dsimp[CU,wt];split
 .rename_i h;rw[h]at q;exact .ret (by simpa using q)
 .rename_i h;rw[xw.mpr h]at q;exact .ret (by simpa using q)
def Jz(k:Str):Bool:=decide (k="needs")||decide (k="effects")
inductive a3m:Prop|mk (x:Str):A'=[.str x]->D' (.bl (Jz x)) B'->a3m
def Io{x m Q}:a3m [.str x] m Q=Q (.bl (Jz x)) m:=by refine propext ⟨?_,λh=>⟨x,rfl,h⟩⟩;rintro⟨a',e,h⟩;cases e;exact h
nonrec def PD:dR KS Ed a3m:=by
 intro ds m Q h;obtain⟨x,rfl,q⟩:=h;unfold Jz at q;dsimp[KS,Ed];split
 .rename_i h;rw[h]at q;exact .ret (by simpa using q)
 .rename_i h;rw[xw.mpr h]at q;exact .ret (by simpa using q)
def u9:List (List Str):=[[],["size", "begin"],["needs", "effects"],["needs"],["variable", "needs"],["variable", "least", "greatest"],["price", "needs"],["purse"],["doing"],[],[],[],["most"],["most"],[],["fact"],["fact"],["most"],["most"],["most"],[],[],[]]
def QW:A8=.mtup (u9.map λl=>.mtup (l.map D.str)):=rfl
def NX:∀n:Nat,n<23->(u9.getD n []).length<=3:=by decide +kernel
def gW:List Str->List Int->Option (List D)
 |[],l=>if l.isEmpty=ZY then Z_ [] else ZZ
 |_::_,[]=>ZZ
 |k::a,x::l=>if Jz k=ZY then (if 0<=x/\x<=(l.length:Int) then (gW a (l.drop x.toNat)).map (D.lst (dI (l.take x.toNat))::·) else ZZ) else (gW a l).map (D.int x::·)
def oq:List Int->Option (List D)
 |[]=>ZZ
 |x::l=>if 0<=x/\x<=22 then gW (u9.getD x.toNat []) l else ZZ
def YE:Option (List D)->D
 |none=>.non
 |some l=>.lst l
inductive a5O:Prop|mk (r:List Int):A'=[.lst (dI r)]->r.length<=1000->D' (YE (oq r)) B'->a5O
def Gg:dR (sk a3O a3m) nV a5O:=by
 intro ds m Q h;obtain⟨r,rfl,hlen,q⟩:=h;cases r with
 |nil=>dsimp[sk,nV,dI];exact .ret q
 |cons x l=>
  have U:dI (x::l)=.int x::dI l:=rfl;dsimp[sk,nV,QW,pV,U,gF,ah];have P:¬((((dI l).length+1:Nat):Int)=0):=by lia
  simp only[P,decide_false,bR,if_false];have R:((u9.length:Nat):Int)-1=22:=rfl;refine dY (λh=>?_) λh=>?_
  .refine .ret ?_;have:¬(0<=x/\x<=22):=by rw[R]at h;simp at h;lia
   simp only[oq,i0n this]at q;exact q
  .have V:0<=x/\x<=22:=by rw[R]at h;simp at h;lia
   simp only[oq,i0p V]at q;intro p S;generalize C:u9.getD x.toNat []=v at q;have W:tL (u9.map λl=>D.mtup (l.map D.str)) x=Z_ (.mtup (v.map D.str)):=by
    obtain⟨n,rfl⟩:∃n:Nat,x=(n:Int):=⟨x.toNat,by lia⟩
    refine d9 ?_;have H:n<u9.length:=by show n<23;lia
    rw[aR,aj H,<-C];simp only[bA,aI,aj H];rfl
   have hks3:v.length<=3:=by
    rw[<-C];obtain⟨n,rfl⟩:∃n:Nat,x=(n:Int):=⟨x.toNat,by lia⟩
    have H:n<23:=by lia
    simp only[bA];exact NX n H
   dsimp[dQ,cS,gF,W,f_];have sub:∀f,Cj m (bQ m p (.lst f)):=λf=>Cj.new S
   let X:LI3:=λi σ I=>∃(n:Nat) (f:List D) (k? b?:Option D),σ=[Z_ (.lst (.int x::dI l)),Z_ (.ref p),Z_ (.int n),k?,b?]/\I=bQ m p (.lst f)/\f.length<=i/\1<=n/\n<=l.length+1/\gW v l=(gW (v.drop i) (l.drop (n-1))).map (f++·)
   refine⟨X,⟨1,[],ZZ,ZZ,rfl,rfl,aN _,aN _,by lia,by simp⟩,λ_ _ _ _ _=>trivial,?_,?_⟩
   .rintro i d σ I A ⟨n,f,k?,b?,rfl,rfl,E,J,K,c⟩;rw[aR]at A;cases s:v[i]? with
    |none=>rw[s]at A;cases A
    |some k=>
     rw[s]at A;have A:D.str k=d:=by simpa using A
     subst A;have o:v.drop i=k::v.drop (i+1):=by obtain⟨g,rfl⟩:=ax.mp s;exact cf g
     have hi3:i<3:=by have:=(ax.mp s).1;lia
     have t:(dI l).length=l.length:=ke l;dsimp[Tg.set,t];refine dY (λh=>?_) λh=>?_
     .have h:l.length+1<=n:=by simp at h;lia
      have e:l.drop (n-1)=[]:=AB (by lia);rw[o,e]at c;simp only[gW,A2]at c;rw[c]at q;exact .sub (sub _) q
     .have h:n<l.length+1:=by simp at h;lia
      obtain⟨y,T⟩:∃y,l[n-1]?=Z_ y:=⟨_,aj (by lia)⟩
      have L:tL (D.int x::dI l) (n:Int)=Z_ (.int y):=by
       refine d9 ?_;obtain⟨n,rfl⟩:∃Y,n=Y+1:=⟨n-1,by lia⟩
       simpa[dI] using T
      have B:l.drop (n-1)=y::l.drop n:=by
       obtain⟨g,rfl⟩:=ax.mp T;rw[cf g]
       congr 2;lia
      rw[o,B]at c;simp only[gW]at c;dsimp[Io,L];refine dY (λM=>?_) λM=>?_
      .rw[i0p M]at c;dsimp[pV,t];refine dY (λN=>?_) λN=>?_
       .have O:¬(0<=y/\y<=((l.drop n).length:Int)):=by
         rw[mN];simp at N;lia
        rw[i0n O]at c;rw[c]at q;exact .sub (sub _) q
       .have u:0<=y/\y<=((l.drop n).length:Int):=by
         rw[mN];simp at N;lia
        rw[i0p u]at c;obtain⟨z,rfl⟩:∃z:Nat,y=(z:Int):=⟨y.toNat,by lia⟩
        have P:z<=l.length-n:=by have:=u.2;rw[mN]at this;lia
        have F:(0:Int)<=(n:Int)+1/\(0:Int)<=(n:Int)+1+(z:Int):=by lia
        have G:E8 (D.int x::dI l) ((n:Int)+1) ((n:Int)+1+(z:Int))=dI ((l.drop n).take z):=by have:=YD (r:=x::l) (i:=n+1) (j:=n+1+z) (by lia) (by simp;lia);simp only[Int.natCast_add,List.drop_succ_cons,Nat.add_sub_cancel_left]at this;exact this
        have g:f.length<1000000:=by lia
        simp only[F,G,and_self,if_true,g,cy];refine⟨n+1+z,f++[.lst (dI ((l.drop n).take z))],_,_,rfl,rfl,by simp;lia,by lia,by lia,?_⟩;rw[c];simp only[bA,List.drop_drop,Option.map_map];have Z:n+1+z-1=n+z:=by lia
        rw[Z]
        congr 1
        funext w
        simp
      .rw[i0n (by rw[M];exact aB)]at c;have g:f.length<1000000:=by lia
       simp only[g,cy,if_true];refine⟨n+1,f++[.int y],_,_,rfl,rfl,by simp;lia,by lia,by lia,?_⟩;rw[c];simp only[Option.map_map,Nat.add_sub_cancel]
       congr 1
       funext w
       simp
   .rintro σ I ⟨n,f,k?,b?,rfl,rfl,E,J,K,c⟩;rw[ah,fw]at c;have t:(dI l).length=l.length:=ke l;dsimp[t];refine dY (λh=>?_) λh=>?_
    .have h:n-1<l.length:=by simp at h;lia
     have e:(l.drop (n-1)).isEmpty=ZX:=by
      cases hq:l.drop (n-1) with
      |nil=>have:=congrArg xq hq;rw[mN]at this;simp at this;lia
      |cons a b=>rfl
     simp only[gW,e,bR,if_false,A2]at c;rw[c]at q;exact .sub (sub _) q
    .have h:n-1=l.length:=by simp at h;lia
     rw[h,fw]at c;simp only[gW,List.isEmpty_nil,if_true,dZ,e9]at c;rw[c]at q;exact .new S q
def three:List Int->D:=λl=>.tup (dI l)
def JQ(l:List Int):List D:=(bL ((l.length+2) / 3)).map λi=>three ((l.drop (3*i)).take 3)
inductive a1U:Prop|mk (l:List Int):A'=[.lst (dI l)]->l.length<=1000->D' (.tup (JQ l)) B'->a1U
def a1r{l:List Int}{i:Nat}(h:3*i<=l.length):E8 (dI l) (0+(i:Int)*3) (0+(i:Int)*3+3)=dI ((l.drop (3*i)).take 3):=by
 unfold E8;rw[ke];have a:(0+(i:Int)*3).toNat=3*i:=by lia
 have b:(0+(i:Int)*3+3).toNat=3*i+3:=by lia
 rw[a,b,Bs h];unfold dI;rw[List.map_take,List.map_drop];by_cases c:3*i+3<=l.length
 .rw[Bs c];congr 1;lia
 .rw[Nat.min_eq_right (by lia)];rw[qd (by simp),qd (by simp;lia)]
def Sd:dR NR I0 a1U:=by
 intro ds m Q h;obtain⟨l,rfl,hlen,q⟩:=h;dsimp[NR,I0,ku,Pd,ke];have f:(0:Int)<=0/\(0:Int)<=(l.length:Int)/\(l.length:Int)<=100000:=by lia
 dsimp[f,and_self,if_true,kS];have g:(((l.length:Int)-0+2) / 3).toNat=(l.length+2) / 3:=by lia
 rw[g];intro p c;refine a0a c (λd=>match d with
  |.int i=>Z_ (.tup (E8 (dI l) i (i+3)))
  |_=>ZZ) ?_ (λd j m' hs A B k hB=>?_) ?_
 .exact λ_ _=>trivial
 .obtain⟨i,a,rfl⟩:=aF.mp j;have a:=cT.mp a;have b:(0:Int)<=0+(i:Int)*3/\(0:Int)<=0+(i:Int)*3+3:=by lia
  dsimp[ib,b,and_self];exact k _ rfl
 .simp only[ia c];refine .ret ?_;have e:(eh 0 3 ((l.length+2) / 3)).filterMap (λd=>match d with
   |.int i=>Z_ (D.tup (E8 (dI l) i (i+3)))
   |_=>ZZ)=JQ l:=by
   unfold eh JQ;rw[oR];refine rh λi a=>?_;have a:=cT.mp a;simp only[df,three];rw[a1r (by lia)]
  rwa[e]
def Et{l:List Int}{m Q}(h:l.length<=1000)(q:Q (.tup (JQ l)) m):a1U [.lst (dI l)] m Q:=⟨l,rfl,h,q⟩
def kN(x lo a:Int):Bool:=decide (lo<=x)&&decide (x<=a)
def kf(k:Str)(a b c:Int):Bool:=kN a 0 7&&kN b 0 3&&(if k="effects"/\2<=b then kN c 0 7 else kN c (-1000) 1000)
inductive a5F:Prop|mk (k:Str) (a b c:Int):A'=[.str k,three [a,b,c]]->D' (.bl (kf k a b c)) B'->a5F
def zD:dR (rb a3O) lZ a5F:=by
 intro ds m Q h;obtain⟨k,a,b,c,rfl,q⟩:=h;dsimp[rb,lZ,three,dI,pV,gF,lT,NW];simp only[kf,kN]at q;refine dY (λh1=>?_) λh1=>?_
 .have e:(decide (0<=a)&&decide (a<=7))=ZX:=PB h1;rw[e]at q;exact .ret (by simpa using q)
 .have e:(decide (0<=a)&&decide (a<=7))=ZY:=S_ h1;rw[e]at q;refine dY (λg=>?_) λg=>?_
  .have e:(decide (0<=b)&&decide (b<=3))=ZX:=PB g;rw[e]at q;exact .ret (by simpa using q)
  .have e:(decide (0<=b)&&decide (b<=3))=ZY:=S_ g;rw[e]at q;simp only[y9]at q;refine dY (λd=>?_) λd=>?_
   .have d:k="effects":=by simpa using d
    refine dY (λf=>?_) λf=>?_
    .have f:2<=b:=by simpa using f
     rw[i0p ⟨d,f⟩]at q;exact .ret q
    .have f:¬2<=b:=by simpa using f
     rw[i0n (λz=>f z.2)]at q;exact .ret q
   .have d:¬k="effects":=by simpa using d
    rw[i0n (λz=>d z.1)]at q;exact .ret q
def zE{k}{a b c:Int}{m Q}(q:Q (.bl (kf k a b c)) m):a5F [.str k,three [a,b,c]] m Q:=⟨k,a,b,c,rfl,q⟩
def UA(k:Str)(l:List Int)(i:Nat):Bool:=kf k (l.getD (3*i) 0) (l.getD (3*i+1) 0) (l.getD (3*i+2) 0)
def mY(k:Str)(l:List Int):Bool:=decide (l.length<=30)&&decide (l.length%3=0)&&(bL (l.length / 3)).all (UA k l)
inductive a5B:Prop|mk (k:Str) (l:List Int):A'=[.str k,.lst (dI l)]->l.length<=1000->D' (.bl (mY k l)) B'->a5B
def a0b{l:List Int}{i:Nat}(h:3*i+3<=l.length):(l.drop (3*i)).take 3=[l.getD (3*i) 0,l.getD (3*i+1) 0,l.getD (3*i+2) 0]:=by
 refine qb λj=>?_;rw[List.getElem?_take]
 match j with
 |0=>simp[G5];rw[aj (by lia)];rfl
 |1=>simp[G5];rw[aj (by lia)];rfl
 |2=>simp[G5];rw[aj (by lia)];rfl
 |j+3=>simp;lia
def AI:dR (sm a1U a5F) mR a5B:=by
 intro ds m Q h;obtain⟨k,l,rfl,hlen,q⟩:=h;dsimp[sm,mR,ke];unfold mY at q;refine dY (λh1=>?_) λh1=>?_
 .have h1:¬l.length<=30:=by simp at h1;lia
  rw[decide_eq_false h1]at q;exact .ret (by simpa using q)
 .have h1:l.length<=30:=by simp at h1;lia
  have n:(0:Int)<3:=by decide
  simp only[n,if_true];refine dY (λf=>?_) λf=>?_
  .have f:¬l.length%3=0:=by simp at f;lia
   rw[decide_eq_false f]at q;exact .ret (by simpa using q)
  .have f:l.length%3=0:=by simp at f;lia
   rw[decide_eq_true h1,decide_eq_true f]at q;simp only[y9]at q;dsimp[ku,cS];refine Et hlen ?_;dsimp[f_,kS];intro p j;have o:JQ l=(bL (l.length / 3)).map λi=>three [l.getD (3*i) 0,l.getD (3*i+1) 0,l.getD (3*i+2) 0]:=by
    unfold JQ;have e:(l.length+2) / 3=l.length / 3:=by lia
    rw[e];refine bO λi g=>?_;have g:=cT.mp g;rw[a0b (by lia)]
   rw[o];refine a0a j (λd=>match d with
    |.tup [.int a,.int b,.int c]=>Z_ (.bl (kf k a b c))
    |_=>ZZ) ?_ (λd r m' hs A B s hB=>?_) ?_
   .exact λ_ _=>trivial
   .obtain⟨i,g,rfl⟩:=aF.mp r;dsimp[ib];exact zE (s _ rfl)
   .have e:((bL (l.length / 3)).map λi=>three [l.getD (3*i) 0,l.getD (3*i+1) 0,l.getD (3*i+2) 0]).filterMap (λd=>match d with
     |.tup [.int a,.int b,.int c]=>Z_ (D.bl (kf k a b c))
     |_=>ZZ)=((bL (l.length / 3)).map (UA k l)).map D.bl:=by
     rw[oR,bq];exact rh λi g=>rfl
    simp only[e,ia j,lg];refine .ret ?_;rwa[kY]
def AJ{k}{l:List Int}{m Q}(h:l.length<=1000)(q:Q (.bl (mY k l)) m):a5B [.str k,.lst (dI l)] m Q:=⟨k,l,rfl,h,q⟩
def Eu(x:Str):Option (Int×Int):=([("size",1,50),("begin",0,49),("variable",0,7),("least",0,49),("greatest",0,49),("price",0,1000),("purse",0,10000),("doing",0,19),("fact",0,11),("most",1,60)]:List (Str×Int×Int)).lookup x
def Se(x:Str):vw x=(Eu x).map λp=>.mtup [.int p.1,.int p.2]:=by
 unfold vw Eu;simp only[cX,List.lookup_nil]
 iterate 10 (split;· rfl)
 rfl
inductive QX:Str->D->Bool->Prop
 |lst {k:Str} {l:List Int}:Jz k=ZY->l.length<=1000->QX k (.lst (dI l)) (mY k l)
 |int {k:Str} {x lo hi:Int}:Jz k=ZX->Eu k=Z_ (lo,hi)->QX k (.int x) (kN x lo hi)
inductive a6b:Prop|mk (k:Str) (d:D) (b:Bool):A'=[.str k,d]->QX k d b->D' (.bl b) B'->a6b
def vH:dR (nW a3m a5B a3O) k8 a6b:=by
 intro ds m Q h;obtain⟨k,d,b,rfl,ok,q⟩:=h;dsimp[nW,k8,Io];cases ok with
 |lst h1 a=>rw[i0p h1];exact AJ a (.ret q)
 |int h1 a=>rw[i0n (by rw[h1];exact aB)];dsimp[Se,a,dZ,gF,lT,pV];exact .ret q
inductive zF:List Str->List D->Bool->Prop
 |nil:zF [] [] ZY
 |cons {k:Str} {ks:List Str} {d:D} {ds:List D} {b c:Bool}:QX k d b->zF ks ds c->zF (k::ks) (d::ds) (b&&c)
def iOfD:D->Int
 |.int a=>a
 |_=>0
def L5(n:Nat)(args:List D):Bool:=if n=1 then decide (iOfD (args.getD 1 .non)<iOfD (args.getD 0 .non)) else if n=5 then decide (iOfD (args.getD 1 .non)<=iOfD (args.getD 2 .non)) else ZY
def Mi(n:Nat)(args:List D):Prop:=(n=1->∃a b,args=[.int a,.int b])/\(n=5->∃a b c,args=[a,.int b,.int c])
inductive a6k:Prop|mk (n:Nat) (args:List D) (b:Bool):A'=[.int n,.lst args]->n<23->zF (u9.getD n []) args b->Mi n args->D' (.bl (b&&L5 n args)) B'->a6k
def zF.len{a:List Str}{ds:List D}{b:Bool}(h:zF a ds b):a.length=ds.length:=by
 induction h with
 |nil=>rfl
 |cons _ _ c=>simp[c]
nonrec def Gh:dR (yS a6b) su a6k:=by
 intro ds m Q h;obtain⟨n,args,b,rfl,j,ok,t,q⟩:=h;have u:tL (u9.map λl=>D.mtup (l.map D.str)) (n:Int)=Z_ (.mtup ((u9.getD n []).map D.str)):=by refine d9 ?_;have j:n<u9.length:=j;rw[aR,aj j];simp only[aI,aj j];rfl
 generalize hks:u9.getD n []=g at ok u;dsimp[yS,su,dQ,NG,QW,u,r8,B2,f_]
 let w:LI3:=λi σ o=>∃k? d? e,σ=[Z_ (.int n),Z_ (.lst args),k?,d?]/\o=m/\zF (g.drop i) (args.drop i) e/\b=e
 refine⟨w,⟨ZZ,ZZ,b,rfl,rfl,ok,rfl⟩,λ_ _ _ _ _=>⟨trivial,trivial⟩,?_,?_⟩
 .rintro i d σ o p ⟨k?,d?,e,rfl,rfl,f,rfl⟩;have s:=(ax.mp p).1;obtain⟨h1,k⟩:=E7 s;rw[ah]at h1;have x:g.drop i=g[i]::g.drop (i+1):=cf h1;have y:args.drop i=args[i]::args.drop (i+1):=cf k;rw[x,y]at f;have z:d=.tup [.str g[i],args[i]]:=by
   have:=CG (l:=g.map D.str) (m:=args) (i:=i) (d:=.str g[i]) (e:=args[i]) (by simp[h1]) (by simp[k]);rw[this]at p;exact (az p).symm
  subst z;cases f with
  |cons a r=>
   rename_i b1 A;dsimp[];refine⟨_,_,_,rfl,a,?_⟩;dsimp[];refine dY (λh=>?_) λh=>?_
   .have h:=PB h;subst h;exact .ret (by simpa using q)
   .have h:=S_ h;subst h;exact⟨_,_,A,rfl,rfl,r,by simp⟩
 .rintro σ o ⟨k?,d?,e,rfl,rfl,f,rfl⟩;have v:g.length=args.length:=ok.len;have B:(AG (g.map D.str) args).length=g.length:=by simp[AG,v]
  rw[B,fw,v,fw]at f;cases f;dsimp[];refine dY (λh=>?_) λh=>?_
  .have h:n=1:=by simp at h;lia
   obtain⟨a,b,rfl⟩:=t.1 h;subst h;dsimp[gF,lT];exact .ret (show Q (.bl (decide (b<a))) _ from q)
  .have h1:n≠1:=by simp at h;lia
   refine dY (λh=>?_) λh=>?_
   .have h:n=5:=by simp at h;lia
    obtain⟨a,b,c,rfl⟩:=t.2 h;subst h;dsimp[lT,NW];exact .ret (show Q (.bl (decide (b<=c))) _ from q)
   .have k:n≠5:=by simp at h;lia
    refine .ret ?_;have:L5 n args=ZY:=by rw[L5,i0n h1,i0n k]
    rw[this]at q;simpa using q
open Vberab (Need Effect Doing)
def L6(c:g8):D:=.tup [.int (c.var:Int),.int (c.how:Int),.int c.n]
def ot(l:List g8):D:=.tup (l.map L6)
def Mj(c:cp):D:=.tup [.int (c.var:Int),.int (c.how:Int),.int c.n]
def NY(l:List cp):D:=.tup (l.map Mj)
def uQ(d:dU):D:=.tup [ot d.needs,NY d.effects]
def QY(v:Vberaf.View):D:=.tup [.int (v.var:Int),ot v.needs]
def D6(f:vX):D:=.tup [.int (f.price:Int),ot f.needs]
def FN(p:Nat×Nat):D:=.tup [.int (p.1:Int),.int (p.2:Int)]
def eV(v:List Nat):D:=.tup (dN v)
structure PA where
 z:ak
 a1:ak
 a2:ak
 a3:ak
 a4:ak
 a5:ak
 a6:ak
def jg(A:PA)(g:List g8):List (Str×D):=[("sizes",.ref A.a1),("begins",.ref A.a2),("spans",.ref A.a3),("doings",.ref A.a4),("goal",ot g),("views",.ref A.a5),("facts",.ref A.a6)]
section
variable {A:PA} {g:List g8}
def zG:(jg A g).lookup ("sizes":Str)=Z_ (.ref A.a1):=rfl
def Ab:(jg A g).lookup ("begins":Str)=Z_ (.ref A.a2):=rfl
def zH:(jg A g).lookup ("spans":Str)=Z_ (.ref A.a3):=rfl
def vI:(jg A g).lookup ("doings":Str)=Z_ (.ref A.a4):=rfl
def Wi:(jg A g).lookup ("goal":Str)=Z_ (ot g):=rfl
def NZ:(jg A g).lookup ("views":Str)=Z_ (.ref A.a5):=rfl
def qm:(jg A g).lookup ("facts":Str)=Z_ (.ref A.a6):=rfl
end
def aW{m a C}{b:List (Str×D)}(f:Str)(h:m a=Z_ (.ins C b)):Kv m (.ref a) f=b.lookup f:=by simp only[Kv,h]
structure et(s:ae)(A:PA)(m:M):Prop where
 z:m A.z=Z_ (.ins iK (jg A s.puzzle.goal))
 sizes:m A.a1=Z_ (.lst (dN s.puzzle.sizes))
 begins:m A.a2=Z_ (.lst (dN s.puzzle.begins))
 spans:m A.a3=Z_ (.lst (s.maybes.map FN))
 doings:m A.a4=Z_ (.lst (s.puzzle.doings.map uQ))
 views:m A.a5=Z_ (.lst (s.views.map QY))
 facts:m A.a6=Z_ (.lst (s.facts.map D6))
def et.mono{s}{A:PA}{m m'}(h:et s A m)(k:∀a o,m a=Z_ o->a=A.z\/a=A.a1\/a=A.a2\/a=A.a3\/a=A.a4\/a=A.a5\/a=A.a6->m' a=Z_ o):et s A m':=⟨k _ _ h.z (by simp),k _ _ h.sizes (by simp),k _ _ h.begins (by simp),k _ _ h.spans (by simp),k _ _ h.doings (by simp),k _ _ h.views (by simp),k _ _ h.facts (by simp)⟩
def et.sub{s A m m'}(h:et s A m)(k:Cj m m'):et s A m':=h.mono λa o e _=>k a o e
def UB(h x n:Int):Bool:=if h=0 then decide (x=n) else if h=1 then !decide (x=n) else if h=2 then decide (x<n) else decide (n<=x)
inductive a5E:Prop|mk (a b c:Int):A'=[.int a,.int b,.int c]->D' (.bl (UB a b c)) B'->a5E
def Ip{a b c:Int}{m Q}(q:Q (.bl (UB a b c)) m):a5E [.int a,.int b,.int c] m Q:=⟨a,b,c,rfl,q⟩
def Iq:dR B9 uw a5E:=by
 intro ds m Q h;obtain⟨a,b,c,rfl,q⟩:=h;dsimp[B9,uw];unfold UB at q;refine dY (λh=>?_) λh=>?_
 .rw[i0p (by simpa using h)]at q;exact .ret q
 .rw[i0n (by simpa using h)]at q;refine dY (λh=>?_) λh=>?_
  .rw[i0p (by simpa using h)]at q;exact .ret q
  .rw[i0n (by simpa using h)]at q;refine dY (λh=>?_) λh=>?_
   .rw[i0p (by simpa using h)]at q;exact .ret q
   .rw[i0n (by simpa using h)]at q;exact .ret q
def YF{v}{c:g8}{x:Nat}(h:v[c.var]?=Z_ x):UB (c.how:Int) (x:Int) c.n=jD v c:=by
 unfold UB jD;have e:v.getD c.var 0=x:=by rw[aI,h];rfl
 simp only[e];by_cases a:c.how=0
 .rw[i0p (by lia),i0p a,bW];simp
 .rw[i0n (by lia),i0n a];by_cases h1:c.how=1
  .rw[i0p (by lia),i0p h1,bW];simp
  .rw[i0n (by lia),i0n h1];by_cases b:c.how=2
   .rw[i0p (by lia),i0p b]
   .rw[i0n (by lia),i0n b]
def kU(n:Nat)(l:List g8):Prop:=∀c∈l,c.var<n
inductive a2d:Prop|mk (l:List g8) (v:List Nat):A'=[ot l,eV v]->kU v.length l->D' (.bl (l.all (jD v))) B'->a2d
def jP{l:List g8}{v:List Nat}{m Q}(h:kU v.length l)(q:Q (.bl (l.all (jD v))) m):a2d [ot l,eV v] m Q:=⟨l,v,rfl,h,q⟩
def Ew:dR (xK a5E) qL a2d:=by
 intro ds m Q h;obtain⟨l,v,rfl,k,q⟩:=h;simp only[ot,eV];dsimp[xK,qL,dQ,cS,f_]
 let t:LI3:=λi σ n=>∃a b c,σ=[Z_ (.tup (l.map L6)),Z_ (.tup (dN v)),a,b,c]/\n=m/\l.all (jD v)=(l.drop i).all (jD v)
 refine⟨t,⟨ZZ,ZZ,ZZ,rfl,rfl,rfl⟩,λ_ _ _ _ _=>trivial,?_,?_⟩
 .rintro i d σ n f ⟨a,b,c,rfl,rfl,e⟩;rw[aR]at f;cases j:l[i]? with
  |none=>rw[j]at f;cases f
  |some r=>
   rw[j]at f;cases az f;obtain⟨o,p⟩:=ax.mp j;have hm:=k r (aJ j);obtain⟨x,s⟩:∃x,v[r.var]?=Z_ x:=⟨_,aj hm⟩
   rw[cf o,p,eO]at e;dsimp[L6,Im s];refine Ip ?_;rw[YF s];dsimp[];refine dY (λh=>?_) λh=>?_
   .rw[PB h]at e;rw[e]at q;exact .ret (by simpa using q)
   .rw[S_ h]at e;exact⟨_,_,_,rfl,rfl,by simpa using e⟩
 .rintro σ n ⟨a,b,c,rfl,rfl,e⟩;rw[ah,fw]at e;rw[e]at q;exact .ret q
inductive a5q:Prop|mk (s:ae) (A:PA) (v:List Nat):A'=[.ref A.z,eV v]->et s A B'->kU v.length s.puzzle.goal->D' (.bl (s.puzzle.goal.all (jD v))) B'->a5q
def Sf:dR (NT a2d) Ig a5q:=by intro ds m Q h;obtain⟨s,A,v,rfl,b,a,q⟩:=h;dsimp[NT,Ig,aW _ b.z,Wi];exact jP a (.ret q)
inductive a3U:Prop|mk (s:ae) (A:PA) (x:Int):A'=[.ref A.z,.int x]->et s A B'->D' (.bl (decide (x<(s.puzzle.sizes.length:Int)))) B'->a3U
def qo{s:ae}{A:PA}{x:Int}{m Q}(a:et s A m)(q:Q (.bl (decide (x<(s.puzzle.sizes.length:Int)))) m):a3U [.ref A.z,.int x] m Q:=⟨s,A,x,rfl,a,q⟩
def N_:dR Ia BI a3U:=by intro ds m Q h;obtain⟨s,A,x,rfl,a,q⟩:=h;dsimp[Ia,BI,aW _ a.z,zG,f7 a.sizes,fF];exact .ret q
inductive a3Z:Prop|mk (s:ae) (A:PA) (l:List g8):A'=[.ref A.z,ot l]->et s A B'->D' (.bl (!DR s l)) B'->a3Z
def Wj(s:ae)(l:List g8):(!DR s l)=l.all λc=>decide ((c.var:Int)<(s.puzzle.sizes.length:Int)):=by
 unfold DR;rw[List.not_any_eq_all_not]
 congr 1
 funext c
 rw[bW];simp
def BO:dR (t_ a3U) nY a3Z:=by
 intro ds m Q h;obtain⟨s,A,l,rfl,f,q⟩:=h;simp only[ot];dsimp[t_,nY,ku,cS,f_,kS];intro p b;refine a0a b (λd=>match d with
  |.tup [.int a,_,_]=>Z_ (.bl (decide (a<(s.puzzle.sizes.length:Int))))
  |_=>ZZ) ?_ (λd j m' k B C n hC=>?_) ?_
 .exact λ_ _=>trivial
 .obtain⟨c,hc,rfl⟩:=aF.mp j;dsimp[L6,ib,gF];exact qo (f.sub k) (n _ rfl)
 .have e:(l.map L6).filterMap (λd=>match d with
   |.tup [.int a,_,_]=>Z_ (D.bl (decide (a<(s.puzzle.sizes.length:Int))))
   |_=>ZZ)=(l.map λc=>decide ((c.var:Int)<(s.puzzle.sizes.length:Int))).map D.bl:=by
   rw[oR,bq];exact rh λi hi=>rfl
  simp only[e,ia b,lg];refine .ret ?_;rw[Wj]at q;rwa[kY]
def qp(s:ae)(x:cp):Bool:=decide ((x.var:Int)<(s.puzzle.sizes.length:Int))&&(decide ((x.how:Int)<2)||decide (x.n<(s.puzzle.sizes.length:Int)))
inductive a5R:Prop|mk (s:ae) (A:PA) (x:cp):A'=[.ref A.z,Mj x]->et s A B'->D' (.bl (qp s x)) B'->a5R
def BP:dR (u4 a3U) n_ a5R:=by
 intro ds m Q h;obtain⟨s,A,x,rfl,a,q⟩:=h;dsimp[u4,n_,Mj,gF,lT,NW];unfold qp at q;refine qo a ?_;dsimp[];refine dY (λh=>?_) λh=>?_
 .rw[PB h]at q;exact .ret (by simpa using q)
 .rw[S_ h]at q;simp only[y9]at q;refine dY (λh=>?_) λh=>?_
  .rw[h]at q;exact .ret (by simpa using q)
  .rw[h]at q;exact qo a (.ret (by simpa using q))
inductive a5H:Prop|mk (s:ae) (A:PA) (l:List cp):A'=[.ref A.z,NY l]->et s A B'->D' (.bl (l.all (qp s))) B'->a5H
def zJ:dR (rf a5R) m6 a5H:=by
 intro ds m Q h;obtain⟨s,A,l,rfl,j,q⟩:=h;simp only[NY];dsimp[rf,m6,ku,cS,f_,kS];intro p f;refine a0a f (λd=>match d with
  |.tup [.int a,.int b,.int c]=>Z_ (.bl (qp s ⟨a.toNat,b.toNat,c⟩))
  |_=>ZZ) ?_ (λd k m' n B C o hC=>?_) ?_
 .exact λ_ _=>trivial
 .obtain⟨c,hc,rfl⟩:=aF.mp k;dsimp[ib];exact⟨s,A,c,rfl,j.sub n,o _ rfl⟩
 .have e:(l.map Mj).filterMap (λd=>match d with
   |.tup [.int a,.int b,.int c]=>Z_ (D.bl (qp s ⟨a.toNat,b.toNat,c⟩))
   |_=>ZZ)=(l.map (qp s)).map D.bl:=by
   rw[oR,bq];exact rh λi hi=>rfl
  simp only[e,ia f,lg];refine .ret ?_;rwa[kY]
def zI(v:List Nat):List Int:=v.map λ(n:Nat)=>(n:Int)
def FO(v:List Nat):dN v=dI (zI v):=by simp[dN,dI,zI,eN]
def Ex(v:List Nat)(e:cp):List Int:=
 let w:=zI v
 let a:=w.set e.var (if e.how=0 then e.n else if e.how=1 then (v.getD e.var 0:Int)+e.n else (v.getD e.n.toNat 0:Int))
 if e.how=3 then a.set e.n.toNat (v.getD e.var 0:Int) else a
structure Ir(n:Nat)(e:cp):Prop where
 var:e.var<n
 how:e.how<=3
 num:2<=e.how->0<=e.n/\e.n.toNat<n
def He{n k:Nat}(h:k<n):SW n (k:Int)=Z_ k:=by
 unfold SW;simp only[bA];first
  |rw[i0p (by lia)];rw[i0p (by lia)]
  |(split<;>first|rfl|lia)
inductive a5M:Prop|mk (v:List Nat) (e:cp):A'=[.lst (dN v),Mj e]->Ir v.length e->D' (.lst (dI (Ex v e))) B'->a5M
def Ml(l:List Int)(i:Nat)(x:Int):(dI l).set i (.int x)=dI (l.set i x):=by simp[dI,Hv]
def D7{v:List Nat}{i:Nat}(h:i<v.length):tL (dN v) (i:Int)=Z_ (.int (v.getD i 0:Int)):=by rw[aI,aj h];exact Im (aj h)
def vJ:dR o3 ka a5M:=by
 intro ds m Q h;obtain⟨v,e,rfl,j,q⟩:=h;obtain⟨var,o,n⟩:=e;obtain⟨h1,r,d⟩:=j;simp only at h1 r d;have g:∀l:List Int,(dI l).length=l.length:=ke;have i:(zI v).length=v.length:=by simp[zI]
 have hw:dN v=dI (zI v):=FO v;have s:=D7 h1;have b:=He h1;rw[hw]at s ⊢
 match o,r,d,q with
 |0,_,_,q=>dsimp[o3,ka,Mj,gF,lT,NW,Int.natCast_zero,g,i,b,Ml,cy,show decide (((0:Nat):Int)=3)=ZX from rfl];intro p c;exact .new c q
 |1,_,_,q=>dsimp[o3,ka,Mj,gF,lT,NW,show decide (((1:Nat):Int)=0)=ZX from rfl,show decide (((1:Nat):Int)=1)=ZY from rfl,show decide (((1:Nat):Int)=3)=ZX from rfl,s,g,i,b,Ml,cy];intro p c;exact .new c q
 |2,_,d,q=>
  obtain⟨t,f⟩:=d (by lia);obtain⟨k,rfl⟩:∃k:Nat,n=(k:Int):=⟨n.toNat,by lia⟩
  simp only[bA]at f;have a:=D7 f;rw[hw]at a;dsimp[o3,ka,Mj,gF,lT,NW,show decide (((2:Nat):Int)=0)=ZX from rfl,show decide (((2:Nat):Int)=1)=ZX from rfl,show decide (((2:Nat):Int)=3)=ZX from rfl,a,g,i,b,Ml,cy];intro p c;exact .new c q
 |3,_,d,q=>
  obtain⟨t,f⟩:=d (by lia);obtain⟨k,rfl⟩:∃k:Nat,n=(k:Int):=⟨n.toNat,by lia⟩
  simp only[bA]at f;have a:=D7 f;rw[hw]at a;dsimp[o3,ka,Mj,gF,lT,NW,show decide (((3:Nat):Int)=0)=ZX from rfl,show decide (((3:Nat):Int)=1)=ZX from rfl,show decide (((3:Nat):Int)=3)=ZY from rfl,a,s,g,i,b,Ml,cy,d4,He f];intro p c;exact .new c q
 |n+4,r,_,_=>lia
def p6(a:List Nat)(w:List Int):Bool:=(a.zip w).all λp=>decide (0<=p.2)&&decide (p.2<(p.1:Int))
inductive a5Z:Prop|mk (a:ak) (c:List Nat) (w:List Int):A'=[.ref a,.lst (dI w)]->B' a=Z_ (.lst (dN c))->D' (.bl (p6 c w)) B'->a5Z
def wQ:dR p4 kK a5Z:=by
 intro ds m Q h;obtain⟨a,f,w,rfl,r,q⟩:=h;dsimp[p4,kK,dQ,NG,r8,B2,f_,r]
 let t:LI3:=λi σ j=>∃b c,σ=[Z_ (.ref a),Z_ (.lst (dI w)),b,c]/\j=m/\p6 f w=((f.zip w).drop i).all λp=>decide (0<=p.2)&&decide (p.2<(p.1:Int))
 refine⟨t,⟨ZZ,ZZ,rfl,rfl,rfl⟩,?_,?_,?_⟩
 .rintro i σ j _ ⟨_,_,_,rfl,_⟩;exact⟨r,trivial⟩
 .rintro i d σ j k ⟨b,c,rfl,rfl,g⟩;have n:=(ax.mp k).1;obtain⟨h1,s⟩:=E7 n;rw[fF]at h1;rw[ke]at s;have u:i<(f.zip w).length:=by rw[iF];lia
  have v:d=.tup [.int (f[i]:Int),.int w[i]]:=by have:=CG (l:=dN f) (m:=dI w) (i:=i) (d:=.int (f[i]:Int)) (e:=.int w[i]) (by simp[dN,eN,h1]) (by simp[dI,s]);rw[this]at k;exact (az k).symm
  subst v;rw[cf u,eO,iT]at g;dsimp[];refine dY (λh=>?_) λh=>?_
  .have:decide (0<=w[i])=ZX:=by simp at h ⊢;lia
   rw[this]at g;rw[g]at q;exact .ret (by simpa using q)
  .refine dY (λo=>?_) λo=>?_
   .have:decide (w[i]<(f[i]:Int))=ZX:=by simp at o ⊢;lia
    rw[this]at g;rw[g]at q;exact .ret (by simpa using q)
   .have x:decide (0<=w[i])=ZY:=by simp at h ⊢;lia
    have y:decide (w[i]<(f[i]:Int))=ZY:=by simp at o ⊢;lia
    rw[x,y]at g;exact⟨_,_,rfl,rfl,by simpa using g⟩
 .rintro σ j ⟨b,c,rfl,rfl,g⟩;have z:(AG (dN f) (dI w)).length=(f.zip w).length:=by simp[AG,fF,ke]
  rw[z,fw]at g;rw[g]at q;exact .ret q
structure nB(s:ae)(v:List Nat):Prop where
 len:v.length=s.puzzle.sizes.length
 lt:∀(i n:Nat),v[i]?=Z_ n->n<s.puzzle.sizes.getD i 0
def Mm(v:List Nat)(i:Nat)(x:Int)(h:0<=x):(zI v).set i x=zI (v.set i x.toNat):=by
 unfold zI;rw[Hv]
 congr 1
 lia
def L7{a:List Nat}{w:List Int}{i:Nat}{x:Int}(hl:w.length=a.length)(hw:p6 a w=ZY)(c:i<a.length):p6 a (w.set i x)=(decide (0<=x)&&decide (x<(a.getD i 0:Int))):=by
 unfold p6 at hw ⊢;rw[cb]at hw;rw[bW,cb];constructor
 .intro h;have b:i<(a.zip (w.set i x)).length:=by rw[iF,d4];lia
  have:=h _ (fu b);rw[iT]at this;simp only[List.getElem_set_self]at this;rwa[aI,aj c]
 .intro h p d;obtain⟨j,f,rfl⟩:=List.getElem_of_mem d;rw[iF,d4]at f;rw[iT];by_cases e:i=j
  .subst e;simp only[List.getElem_set_self];rw[aI,aj c]at h;exact h
  .simp only[List.getElem_set_ne e];have b:j<(a.zip w).length:=by rw[iF];lia
   have:=hw _ (fu b);rw[iT]at this;exact this
def nB.inAll{s:ae}{v}(h:nB s v):p6 s.puzzle.sizes (zI v)=ZY:=by
 unfold L3.p6;rw[cb];intro p b;obtain⟨j,a,rfl⟩:=List.getElem_of_mem b;rw[iF]at a;have c:j<v.length:=by simp[zI]at a;lia
 have h1:j<s.puzzle.sizes.length:=by lia
 rw[iT];have:=h.lt j v[j] (aj c);rw[aI,aj h1]at this;simp[zI];exact this
def UC{s:ae}{w:List Nat}(a:w.length=s.puzzle.sizes.length)(h:p6 s.puzzle.sizes (zI w)=ZY):nB s w:=by
 refine⟨a,λi n b=>?_⟩;obtain⟨hi,rfl⟩:=ax.mp b;unfold p6 at h;rw[cb]at h;have c:i<(s.puzzle.sizes.zip (zI w)).length:=by rw[iF];simp[zI];lia
 have:=h _ (fu c);rw[iT]at this;rw[aI,aj (by lia)];simp[zI]at this;exact this
def sZ(v:List Nat):(zI v).map kE=v:=by
 unfold zI;rw[bq];have:(kE∘λ(n:Nat)=>(n:Int))=id:=by funext n;simp
 rw[this,Cn]
def Hf{s:ae}{v:List Nat}{i:Nat}{x:Int}(a:nB s v)(b:i<v.length):
  (if 0<=x/\x<(s.puzzle.sizes.getD i 0:Int) then Z_ (v.set i x.toNat) else ZZ)=if p6 s.puzzle.sizes ((zI v).set i x)=ZY then Z_ (((zI v).set i x).map kE) else ZZ:=by
 have c:(zI v).length=s.puzzle.sizes.length:=by simp[zI,a.len]
 rw[L7 c a.inAll (by rwa[<-a.len])];by_cases h:0<=x/\x<(s.puzzle.sizes.getD i 0:Int)
 .rw[i0p h,i0p (by rw[decide_eq_true h.1,decide_eq_true h.2];rfl),Mm _ _ _ h.1,sZ]
 .rw[i0n h,i0n (by simpa using h)]
def UD{a:List Nat}{w:List Int}{i:Nat}(c:i<a.length)(hl:w.length=a.length)(h:¬(0<=w.getD i 0/\w.getD i 0<(a.getD i 0:Int))):p6 a w=ZX:=by
 cases b:p6 a w with
 |false=>rfl
 |true=>
  exfalso;unfold p6 at b;rw[cb]at b;have d:i<(a.zip w).length:=by rw[iF];lia
  have:=b _ (fu d);rw[iT]at this;rw[aI,aj (by lia),aI,aj c]at h;simp only[a_,decide_eq_true_eq]at this;exact h this
def PF{s:ae}{v:List Nat}{e}(b:nB s v)(he:Ir v.length e):
  nD s.puzzle v e=if p6 s.puzzle.sizes (Ex v e)=ZY then Z_ ((Ex v e).map kE) else ZZ:=by
 obtain⟨a,g,n⟩:=e;obtain⟨h1,h,f⟩:=he;simp only at h1 h f
 match g,h,f with
 |0,_,_=>exact Hf b h1
 |1,_,_=>exact Hf b h1
 |2,_,_=>exact Hf b h1
 |3,_,f=>
  obtain⟨g1,j⟩:=f (by lia);have l:(zI v).length=s.puzzle.sizes.length:=by simp[zI,b.len]
  show ((if 0<=((v.getD n.toNat 0:Nat):Int)/\((v.getD n.toNat 0:Nat):Int)<(s.puzzle.sizes.getD a 0:Int) then Z_ (v.set a ((v.getD n.toNat 0:Nat):Int).toNat) else ZZ).bind λw=>if 0<=((v.getD a 0:Nat):Int)/\((v.getD a 0:Nat):Int)<(s.puzzle.sizes.getD n.toNat 0:Int) then Z_ (w.set n.toNat ((v.getD a 0:Nat):Int).toNat) else ZZ)=_
  show _=if p6 s.puzzle.sizes (((zI v).set a ((v.getD n.toNat 0:Nat):Int)).set n.toNat ((v.getD a 0:Nat):Int))=ZY then Z_ ((((zI v).set a ((v.getD n.toNat 0:Nat):Int)).set n.toNat ((v.getD a 0:Nat):Int)).map kE) else ZZ
  generalize hk:n.toNat=k at j;by_cases c:a=k
  .subst c;have hx:v.getD a 0<s.puzzle.sizes.getD a 0:=by
    have:=b.lt a _ (aj h1);rwa[aI,aj h1]
   rw[i0p ⟨by lia,by lia⟩];simp only[jX];rw[i0p ⟨by lia,by lia⟩];have m:(zI v).set a ((v.getD a 0:Nat):Int)=zI v:=by
    rw[Mm _ _ _ (by lia)]
    congr 1
    rw[bA,aI,aj h1];exact List.set_getElem_self h1
   rw[m,m,b.inAll,i0p rfl,sZ];rw[bA,aI,aj h1];simp
  .by_cases d:0<=((v.getD k 0:Nat):Int)/\((v.getD k 0:Nat):Int)<(s.puzzle.sizes.getD a 0:Int)
   .rw[i0p d];simp only[jX,bA];have hw:nB s (v.set a (v.getD k 0)):=by
     refine UC (by rw[d4];exact b.len) ?_;have:=L7 (x:=((v.getD k 0:Nat):Int)) l b.inAll (by rw[<-b.len];exact h1);rw[Mm _ _ _ (by lia),bA]at this;rw[this,decide_eq_true d.1,decide_eq_true d.2];rfl
    have:=Hf (s:=s) (v:=v.set a (v.getD k 0)) (i:=k) (x:=((v.getD a 0:Nat):Int)) hw (by rwa[d4]);rw[bA]at this;rw[this];have o:(zI v).set a ((v.getD k 0:Nat):Int)=zI (v.set a (v.getD k 0)):=by rw[Mm _ _ _ (by lia),bA]
    rw[o]
   .rw[i0n d,Hw];have p:p6 s.puzzle.sizes (((zI v).set a ((v.getD k 0:Nat):Int)).set k ((v.getD a 0:Nat):Int))=ZX:=by
     refine UD (i:=a) (by rw[<-b.len];exact h1) (by rwa[d4,d4]) ?_;have q:(((zI v).set a ((v.getD k 0:Nat):Int)).set k ((v.getD a 0:Nat):Int)).getD a 0=((v.getD k 0:Nat):Int):=by rw[aI,dk (aG c),kX (by simp[zI];exact h1)];rfl
     rwa[q]
    rw[p,i0n aB]
 |n+4,h,_=>lia
def O0{v:List Nat}{e}:(Ex v e).length=v.length:=by unfold Ex;simp only;split<;>simp[zI]
def UE{s:ae}{v:List Nat}{e}(hl:v.length=s.puzzle.sizes.length)(h:p6 s.puzzle.sizes (Ex v e)=ZY):zI ((Ex v e).map kE)=Ex v e:=by
 unfold zI;rw[bq];refine List.ext_getElem (by simp) λi h1 a=>?_;simp only[List.getElem_map,df];unfold p6 at h;rw[cb]at h;have b:i<(s.puzzle.sizes.zip (Ex v e)).length:=by rw[iF];rw[O0]at a ⊢;lia
 have:=h _ (fu b);rw[iT]at this;simp only[a_,decide_eq_true_eq]at this;lia
nonrec def D8{s:ae}{v w:List Nat}{e}(a:nB s v)(he:Ir v.length e)(h:nD s.puzzle v e=Z_ w):nB s w/\dI (Ex v e)=dN w:=by
 rw[PF a he]at h;split at h
 .rename_i b;cases h;have e:=UE a.len b;refine⟨UC (by rw[ah,O0];exact a.len) (by rwa[e]),?_⟩;rw[FO,e]
 .cases h
def O1{p w e r}:kH p w (e::r)=(nD p w e).bind λw=>kH p w r:=rfl
def YG:Option (List Nat)->D
 |none=>.non
 |some v=>eV v
structure Hg(n:Nat)(d:dU):Prop where
 needs:kU n d.needs
 effects:∀e∈d.effects,Ir n e
def D9{s:ae}{v w d}(a:nB s v)(f:Hg s.puzzle.sizes.length d)(h:cj s.puzzle d v=Z_ w):nB s w:=by
 unfold cj at h;split at h
 .have:∀(l:List cp) (v:List Nat),nB s v->(∀e∈l,Ir s.puzzle.sizes.length e)->kH s.puzzle v l=Z_ w->nB s w:=by
   intro l;induction l with
   |nil=>intro v a _ h;cases h;exact a
   |cons e l g=>
    intro v a c h;unfold kH at h;cases b:nD s.puzzle v e with
    |none=>rw[b]at h;cases h
    |some u=>rw[b]at h;exact g u (D8 a (by rw[a.len];exact c e (by simp)) b).1 (λi j=>c i (by simp[j])) h
  exact this _ v a f.effects h
 .cases h
inductive a5Y:Prop|mk (s:ae) (A:PA) (d:dU) (v:List Nat):A'=[.ref A.z,uQ d,eV v]->et s A B'->nB s v->Hg s.puzzle.sizes.length d->D' (YG (cj s.puzzle d v)) B'->a5Y
def Gi:dR (yZ a2d a5M a5Z) sC a5Y:=by
 intro ds m Q h;obtain⟨s,A,d,v,rfl,o,p,r,q⟩:=h;simp only[uQ];dsimp[yZ,sC,gF,lT];refine jP (by rw[p.len];exact r.needs) ?_;unfold cj at q;dsimp[];refine dY (λh=>?_) λh=>?_
 .rw[i0n (by rw[PB h];exact aB)]at q;exact .ret q
 .rw[i0p (S_ h)]at q;dsimp[eV,NY,dQ,cS,f_,lT]
  let u:LI3:=λi σ j=>∃w b,σ=[Z_ (.ref A.z),Z_ (.tup [ot d.needs,.tup (d.effects.map Mj)]),Z_ (.tup (dN v)),Z_ (.lst (dN w)),b]/\j=m/\nB s w/\kH s.puzzle v d.effects=kH s.puzzle w (d.effects.drop i)
  refine⟨u,⟨v,ZZ,rfl,rfl,p,rfl⟩,λ_ _ _ _ _=>trivial,?_,?_⟩
  .rintro i d' σ j c ⟨w,b,rfl,rfl,hw,f⟩;rw[aR]at c;cases g:d.effects[i]? with
   |none=>rw[g]at c;cases c
   |some e=>
    rw[g]at c;cases az c;obtain⟨k,l⟩:=ax.mp g;have a:Ir w.length e:=by rw[hw.len];exact r.effects e (aJ g)
    rw[cf k,l]at f;rw[O1]at f;dsimp[];refine⟨w,e,rfl,a,?_⟩;dsimp[aW _ o.z,zG];refine⟨A.a1,s.puzzle.sizes,Ex w e,rfl,o.sizes,?_⟩;dsimp[];refine dY (λh=>?_) λh=>?_
    .have n:=PB h;have:nD s.puzzle w e=ZZ:=by rw[PF hw a,n,i0n aB]
     rw[this]at f;rw[Hw]at f;rw[f]at q;exact .ret q
    .have n:=S_ h;have t:nD s.puzzle w e=Z_ ((Ex w e).map kE):=by rw[PF hw a,n,i0p rfl]
     obtain⟨x,y⟩:=D8 hw a t;rw[t]at f;refine⟨(Ex w e).map kE,Z_ (Mj e),?_,rfl,x,?_⟩
     .rw[y]
     .exact f
  .rintro σ j ⟨w,b,rfl,rfl,hw,f⟩;rw[ah,fw]at f;rw[f]at q;dsimp[];exact .ret q
def Da(s:ae):Prop:=∀w∈s.views,kU s.puzzle.sizes.length w.needs
inductive a5V:Prop|mk (s:ae) (A:PA) (i:Nat) (v:List Nat):A'=[.ref A.z,.int (i:Int),eV v]->et s A B'->v.length=s.puzzle.sizes.length->Da s->D' (.bl (Vberaf.seen s v i)) B'->a5V
def PH:dR (KU a2d) Eh a5V:=by
 intro ds m Q h;obtain⟨s,A,i,v,rfl,f,p,hw,q⟩:=h;dsimp[KU,Eh,aW _ f.z,NZ,dQ,cS,f_,f.views]
 let r:LI3:=λj σ e=>∃b c,σ=[Z_ (.ref A.z),Z_ (.int (i:Int)),Z_ (eV v),b,c]/\e=m/\Vberaf.seen s v i=(s.views.drop j).any λw=>w.var==i&&jE v w.needs
 refine⟨r,⟨ZZ,ZZ,rfl,rfl,rfl⟩,?_,?_,?_⟩
 .rintro j σ e _ ⟨_,_,_,rfl,_⟩;exact f.views
 .rintro j d σ e t ⟨b,c,rfl,rfl,a⟩;obtain⟨w,o,rfl⟩:=VG t;obtain⟨g,k⟩:=ax.mp o;rw[cf g,k,fm]at a;have l:=hw w (aJ o);dsimp[QY];refine dY (λh=>?_) λh=>?_
  .have h:w.var=i:=by simp at h;lia
   refine jP (by rwa[p]) ?_;dsimp[];refine dY (λn=>?_) λn=>?_
   .have:(w.var==i&&jE v w.needs)=ZY:=by
     rw[show jE v w.needs=ZY from n];simp[h]
    rw[this]at a;rw[a]at q;exact .ret (by simpa using q)
   .have:(w.var==i&&jE v w.needs)=ZX:=by
     rw[show jE v w.needs=ZX from n];simp
    rw[this]at a;exact⟨_,_,rfl,rfl,by simpa using a⟩
  .have h:¬w.var=i:=by simp at h;lia
   have:(w.var==i&&jE v w.needs)=ZX:=by simp[h]
   rw[this]at a;exact⟨_,_,rfl,rfl,by simpa using a⟩
 .rintro σ e ⟨b,c,rfl,rfl,a⟩;rw[ah,fw]at a;rw[a]at q;exact .ret q
def wR(s:ae)(v:List Nat)(n:Nat):List Nat:=(bL n).flatMap λi=>if Vberaf.seen s v i=ZY then [1,v.getD i 0] else [0]
def zK(s:ae)(v:List Nat)(n:Nat):wR s v (n+1)=wR s v n++if Vberaf.seen s v n=ZY then [1,v.getD n 0] else [0]:=by unfold wR;rw[AX,fG];simp
def Iu(s:ae)(v:List Nat)(n:Nat):(wR s v n).length<=2*n:=by
 induction n with
 |zero=>simp[wR]
 |succ n ih=>rw[zK,aK];split<;>simp<;>lia
inductive a5c:Prop|mk (s:ae) (A:PA) (v:List Nat):A'=[.ref A.z,eV v]->et s A B'->v.length=s.puzzle.sizes.length->v.length<=1000->Da s->D' (.tup (dN (ay s v))) B'->a5c
def qV{s:ae}{A:PA}{v:List Nat}{m Q}(h1:et s A m)(a:v.length=s.puzzle.sizes.length)(b:v.length<=1000)(c:Da s)(q:Q (.tup (dN (ay s v))) m):a5c [.ref A.z,eV v] m Q:=⟨s,A,v,rfl,h1,a,b,c,q⟩
def Mn(a b:List Nat):dN (a++b)=dN a++dN b:=by simp[dN]
def Gj:dR (y_ a5V) sE a5c:=by
 intro ds m Q h;obtain⟨s,A,v,rfl,t,r,hv1,hw,q⟩:=h;simp only[eV];dsimp[y_,sE,dQ,r_,r8,f_];intro p a
 let u:LI3:=λj σ e=>∃b c,σ=[Z_ (.ref A.z),Z_ (.tup (dN v)),Z_ (.ref p),b,c]/\e=bQ m p (.lst (dN (wR s v j)))
 refine⟨u,⟨ZZ,ZZ,rfl,rfl⟩,?_,?_,?_⟩
 .exact λ_ _ _ _ _=>trivial
 .rintro j d σ e f ⟨b,c,rfl,rfl⟩;have g:=(ax.mp f).1;rw[iG,fF]at g;have k:=vh (l:=dN v) (i:=j) (d:=.int (v[j]:Int)) (by simp[dN,eN,g]);rw[k]at f;cases az f;dsimp[];refine⟨s,A,j,v,rfl,t.sub (Cj.new a),r,hw,?_⟩;have hlen:=Iu s v j;have n:(dN (wR s v j)).length<1000000:=by rw[fF];lia
  have o:(dN (wR s v j)).length+1<1000000:=by rw[fF];lia
  have w:v.getD j 0=v[j]:=by rw[aI,aj g];rfl
  dsimp[n,aK,o,cy];refine dY (λh=>?_) λh=>?_
  .refine⟨_,_,rfl,?_⟩;rw[zK,i0p h,Mn,w];simp[dN,eN]
  .refine⟨_,_,rfl,?_⟩;rw[zK,i0n (by rw[h];exact aB),Mn];simp[dN,eN]
 .rintro σ e ⟨b,c,rfl,rfl⟩;dsimp[iG,fF];refine .sub (Cj.new a) ?_;have:wR s v v.length=ay s v:=by rw[r];rfl
  rwa[this]
inductive a6h:Prop|mk (s:ae) (A:PA):A'=[.ref A.z]->et s A B'->(∀x∈s.maybes,x.1<=x.2/\x.2<=1000)->D' (.int (eY s.maybes:Int)) B'->a6h
def cnt(l:List (Nat×Nat))(n:Nat):Nat:=l.foldl (λn x=>n*(x.2+1-x.1)) n
def BQ:dR u5 o5 a6h:=by
 intro ds m Q h;obtain⟨s,A,rfl,f,g,q⟩:=h;dsimp[u5,o5,aW _ f.z,zH,dQ,cS,f_,f.spans]
 let o:LI3:=λj σ e=>∃(n:Nat) (b c:Option D),σ=[Z_ (.ref A.z),Z_ (.int (n:Int)),b,c]/\e=m/\eY s.maybes=cnt (s.maybes.drop j) n
 refine⟨o,⟨1,ZZ,ZZ,rfl,rfl,rfl⟩,?_,?_,?_⟩
 .rintro j σ e _ ⟨_,_,_,_,rfl,_⟩;exact f.spans
 .rintro j d σ e p ⟨n,b,c,rfl,rfl,a⟩;obtain⟨x,l,rfl⟩:=VG p;obtain⟨i,k⟩:=ax.mp l;obtain⟨h1,h2⟩:=g x (aJ l);rw[cf i,k]at a;have r:-1000000000000000000<(x.2:Int)-(x.1:Int)+1/\(x.2:Int)-(x.1:Int)+1<1000000000000000000:=by lia
  dsimp[FN,r,and_self];refine⟨n*(x.2+1-x.1),Z_ (.int (x.1:Int)),Z_ (.int (x.2:Int)),?_,rfl,a⟩;rw[Int.natCast_mul];have:((x.2+1-x.1:Nat):Int)=(x.2:Int)-(x.1:Int)+1:=by lia
  rw[this]
 .rintro σ e ⟨n,b,c,rfl,rfl,a⟩;rw[ah,fw]at a;dsimp[];rw[a]at q;exact .ret q
def rF(x:Nat×Nat)(st:List Nat):List (List Nat):=(bL (x.2+1-x.1)).map λk=>st++[x.1+k]
def pre(l:List (Nat×Nat)):List (List Nat):=l.foldl (λa x=>a.flatMap (rF x)) [[]]
def O2(l:List (Nat×Nat))(x:Nat×Nat):pre (l++[x])=(pre l).flatMap (rF x):=by unfold pre;rw[gD];rfl
def Bm:∀(l:List (Nat×Nat)) (x:Nat×Nat),cY (l++[x])=(cY l).flatMap (rF x)
 |[],x=>by simp[cY,rF,List.map_eq_flatMap]
 |y::l,x=>by
  rw[List.cons_append];simp only[cY];rw[Bm l x,List.flatMap_assoc]
  congr 1
  funext k
  rw[List.map_flatMap,List.flatMap_map]
  congr 1
  funext st
  simp[rF]
def wU(l:List (Nat×Nat)):pre l=cY l:=by
 have:∀n,∀l:List (Nat×Nat),l.length=n->pre l=cY l:=by
  intro n;induction n with
  |zero=>intro l a;cases kR a;rfl
  |succ n c=>
   intro l a;have b:l≠[]:=by intro e;subst e;cases a
   rw[<-List.dropLast_concat_getLast b,O2,Bm,c _ (by rw[List.length_dropLast,a];rfl)]
 exact this _ l rfl
def Wk(l:List (Nat×Nat)):(pre l).length=eY l:=by
 have:∀(l:List (Nat×Nat)) (b:List (List Nat)) ,(l.foldl (λb x=>b.flatMap (rF x)) b).length=l.foldl (λn x=>n*(x.2+1-x.1)) b.length:=by
  intro l;induction l with
  |nil=>intro b;rfl
  |cons x l c=>
   intro b;rw[d5,d5,c]
   congr 1
   rw[DS];have:(b.map λa=>(rF x a).length)=b.map λ_=>x.2+1-x.1:=by refine bO λa _=>?_;simp[rF]
   rw[this,List.map_const',List.sum_replicate_nat]
 exact this l [[]]
def Mo{l:List (Nat×Nat)}(h:∀x∈l,x.1<=x.2)(i:Nat):eY (l.take i)<=eY l:=by
 have mono:∀(r:List (Nat×Nat)) (n:Nat),(∀x∈r,x.1<=x.2)->n<=r.foldl (λn x=>n*(x.2+1-x.1)) n:=by
  intro r;induction r with
  |nil=>intro n _;exact aN _
  |cons x r b=>intro n a;rw[d5];refine c6 ?_ (b _ λy c=>a y (by simp[c]));have:=a x (by simp);exact Nat.le_mul_of_pos_right n (by lia)
 conv=>rhs;rw[<-Bt i l]
 unfold eY;rw[gD];exact mono _ _ λx d=>h x (List.mem_of_mem_drop d)
inductive a6g:Prop|mk (s:ae) (A:PA):A'=[.ref A.z]->et s A B'->(∀x∈s.maybes,x.1<=x.2/\x.2<=1000)->eY s.maybes<=400->s.maybes.length<=100->D' (.lst ((cY s.maybes).map eV)) B'->a6g
def eW{α:Type}{l:List α}{i:Nat}{x}(h:l[i]?=Z_ x):l.take (i+1)=l.take i++[x]:=by obtain⟨a,rfl⟩:=ax.mp h;exact Hu a
def O3{l:List (Nat×Nat)}{v:List Nat}(h:v∈pre l):v.length=l.length:=by
 rw[wU]at h;induction l generalizing v with
 |nil=>simp[cY]at h;subst h;rfl
 |cons x l a=>simp only[cY,gS,aF]at h;obtain⟨k,_,w,hw,rfl⟩:=h;simp[a hw]
nonrec def wV:dR p5 kM a6g:=by
 intro ds m Q h;obtain⟨s,A,rfl,K,G,F,hml,q⟩:=h;dsimp[p5,kM,aW _ K.z,zH];rw[dQ];dsimp[cS,aW _ K.z,zH,f_,K.spans]
 let V:LI3:=λi σ B=>∃(x:D) (b c d e f:Option D),σ=[Z_ (.ref A.z),Z_ x,b,c,d,e,f]/\Cj m B/\ej B x=Z_ ((pre (s.maybes.take i)).map eV)/\((∃l,x=.lst l)\/∃p,x=.ref p/\m p=ZZ)
 refine⟨V,⟨_,ZZ,ZZ,ZZ,ZZ,ZZ,rfl,Cj.refl m,rfl,.inl ⟨_,rfl⟩⟩,?_,?_,?_⟩
 .rintro j σ B _ ⟨_,_,_,_,_,_,_,C,_⟩;exact C _ _ K.spans
 .rintro i d σ B r ⟨x,b,c,W,e,f,rfl,C,n,t⟩;obtain⟨y,U,rfl⟩:=VG r;obtain⟨h1,h2⟩:=G y (aJ U);have g:pre (s.maybes.take (i+1))=(pre (s.maybes.take i)).flatMap (rF y):=by rw[eW U,O2]
  have hbound:((pre (s.maybes.take i)).flatMap (rF y)).length<=400:=by rw[<-g,Wk];exact c6 (Mo (λx n=>(G x n).1) _) F
  dsimp[FN];intro p v;generalize X:pre (s.maybes.take i)=P at n g hbound;have M:∀st∈P,st.length<=1000:=λst h=>by rw[<-X]at h;have e:=O3 h;rw[eM]at e;lia
  rw[dQ];dsimp[cS];obtain⟨J,Y,H,I⟩:=Uz (Aa (p:=p) (o:=.lst []) n v);rw[Y];simp only
  let Z:LI3:=λj σ E=>∃(e f:Option D),σ=[Z_ (.ref A.z),Z_ x,Z_ (.int (y.1:Int)),Z_ (.int (y.2:Int)),Z_ (.ref p),e,f]/\E=bQ B p (.lst (((P.take j).flatMap (rF y)).map eV))
  refine⟨Z,⟨e,f,rfl,rfl⟩,?_,?_,?_⟩
  .rintro j σ E _ ⟨_,_,_,rfl⟩;exact I _ (Aa n v)
  .rintro j d σ E r ⟨e,f,rfl,rfl⟩;rw[H,aR]at r;cases w:P[j]? with
   |none=>rw[w]at r;cases r
   |some st=>
    rw[w]at r;cases az r;have hsl:=M st (aJ w);have u:(P.take (j+1)).flatMap (rF y)=(P.take j).flatMap (rF y)++rF y st:=by rw[eW w,fG];simp
    have N:((P.take j).flatMap (rF y)++rF y st).length<=400:=by
     rw[<-u];refine c6 ?_ hbound;conv=>rhs;rw[<-Bt (j+1) P,fG,aK]
     exact Nat.le_add_right _ _
    dsimp[];rw[dQ];have hr:(-100000<=(y.1:Int)/\(y.1:Int)<=100000)/\-100000<=(y.2:Int)+1/\(y.2:Int)+1<=100000:=by lia
    dsimp[Pc,hr,and_self];have O:((y.2:Int)+1-(y.1:Int)).toNat=y.2+1-y.1:=by lia
    rw[O]
    let I6:LI3:=λk σ E=>∃(f:Option D),σ=[Z_ (.ref A.z),Z_ x,Z_ (.int (y.1:Int)),Z_ (.int (y.2:Int)),Z_ (.ref p),Z_ (eV st),f]/\E=bQ B p (.lst (((P.take j).flatMap (rF y)++(rF y st).take k).map eV))
    refine⟨I6,⟨f,rfl,by simp⟩,λ_ _ _ _ _=>trivial,?_,?_⟩
    .rintro k d σ E r ⟨f,rfl,rfl⟩;have L:=(ax.mp r).1;have L:k<y.2+1-y.1:=by simpa[eh] using L
     rw[rq L]at r;cases az r;have hg:(rF y st)[k]?=Z_ (st++[y.1+k]):=by simp[rF,L]
     have hlen:(((P.take j).flatMap (rF y)++(rF y st).take k).map eV).length<1000000:=by rw[ah,aK,eM];rw[aK]at N;lia
     have ht:(dN st).length+1<=10000:=by rw[fF];lia
     dsimp[eV,ht];simp only[hlen,if_true,cy];refine⟨_,rfl,?_⟩
     congr 2
     rw[eW hg,<-dw,bU]
     congr 1
     simp[eV,dN,eN]
    .rintro σ E ⟨f,rfl,rfl⟩;refine⟨_,_,rfl,?_⟩;have R:(eh (y.1:Int) 1 (y.2+1-y.1)).length=(rF y st).length:=by simp[eh,rF]
     rw[R,cO,<-u]
  .rintro σ E ⟨e,f,rfl,rfl⟩;have R:J.items.length=P.length:=by rw[H,ah]
   dsimp[];refine⟨.ref p,_,_,_,_,_,rfl,λa o h=>?_,?_,.inr ⟨p,rfl,C.free v⟩⟩
   .have S:a≠p:=by intro e;subst e;rw[C.free v]at h;cases h
    rw[ao S];exact C a o h
   .rw[L1,R,cO,g]
 .rintro σ B ⟨x,b,c,W,e,f,rfl,C,n,t⟩;rw[ah,cO,wU]at n;dsimp[];rcases t with⟨l,rfl⟩|⟨p,rfl,T⟩
  .cases n;exact .sub C q
  .have:B p=Z_ (.lst ((cY s.maybes).map eV)):=by
    unfold ej at n;simp only at n;split at n
    .rename_i l e;rw[e];exact congrArg (λz=>Z_ (MO.lst z)) (az n)
    .cases n
   exact .out this T (λb o h hb=>C b o h) q
def Mp{l:List (Nat×Nat)}{v:List Nat}(h:v∈cY l):v.length=l.length:=by rw[<-wU]at h;exact O3 h
inductive a5K:Prop|mk (s:ae) (A:PA):A'=[.ref A.z]->et s A B'->(∀x∈s.maybes,x.1<=x.2/\x.2<=1000)->eY s.maybes<=400->s.maybes.length=s.puzzle.sizes.length->s.puzzle.begins.length=s.puzzle.sizes.length->s.puzzle.sizes.length<=8->Da s->D' (.tup ((cI s).map eV)) B'->a5K
def Ey(l:List Nat):jL (dN l)=Z_ (zI l):=by rw[FO];exact Es _
def UF{a b}(h:zI a=zI b):a=b:=by rw[<-sZ a,h,sZ]
def tF:dR (mm a5c a6g) jm a5K:=by
 intro ds m Q h;obtain⟨s,A,rfl,b,f,a,h1,j,h3,hw,q⟩:=h;dsimp[mm,jm,aW _ b.z,Ab,fU b.begins];refine qV (v:=s.puzzle.begins) b j (by lia) hw ?_;dsimp[ku,cS,kS];refine⟨s,A,rfl,b,f,a,by lia,?_⟩;simp only[f_];intro p c;refine a0a c (λd=>match d with
  |.tup l=>(match jL l with
   |some w=>if ay s (w.map kE)=ay s s.puzzle.begins then Z_ d else ZZ
   |none=>ZZ)
  |_=>ZZ) ?_ (λd k m' n B C g i=>?_) ?_
 .exact λ_ _=>trivial
 .obtain⟨v,o,rfl⟩:=aF.mp k;have hl:=Mp o;dsimp[];refine qV (b.sub n) (by lia) (by lia) hw ?_;dsimp[Ey];simp only[eV,Ey,sZ]at g i;refine dY (λh=>?_) λh=>?_
  .have h:ay s v=ay s s.puzzle.begins:=UF (by simpa using h);rw[i0p h]at g;exact g _ rfl
  .have h:¬ay s v=ay s s.puzzle.begins:=λe=>by rw[e]at h;simp at h
   rw[i0n h]at i;exact i rfl
 .have e:((cY s.maybes).map eV).filterMap (λd=>match d with
   |.tup l=>(match jL l with
    |some w=>if ay s (w.map kE)=ay s s.puzzle.begins then Z_ d else ZZ
    |none=>ZZ)
   |_=>ZZ)=(cI s).map eV:=by
   rw[oR];unfold cI;rw[<-List.filterMap_eq_filter,List.map_filterMap]
   congr 1
   funext v
   simp only[df,eV,Ey,sZ];by_cases h:ay s v=ay s s.puzzle.begins
   .rw[i0p h];simp[Option.guard,h,eV]
   .rw[i0n h];simp[Option.guard,h]
  simp only[e,ia c];exact .ret q
structure mq(s:ae):Prop where
 vars:s.puzzle.sizes.length<=8
 begins:s.puzzle.begins.length=s.puzzle.sizes.length
 maybes:s.maybes.length=s.puzzle.sizes.length
 a1T:s.puzzle.doings.length<=20
 a2i:s.facts.length<=12
 views:Da s
 doings:∀d∈s.puzzle.doings,Hg s.puzzle.sizes.length d
 goal:kU s.puzzle.sizes.length s.puzzle.goal
 facts:∀f∈s.facts,kU s.puzzle.sizes.length f.needs
structure QA where
 q:ak
 b1:ak
 b2:ak
 b3:ak
 A:PA
def rP(b:List (List Nat)):D:=.tup (b.map eV)
def Iw(l:List Nat):D:=.tup (dN l)
def f9(B:QA)(p:bM):List (Str×D):=[("puzzle",.ref B.A.z),("actual",eV p.now),("belief",rP p.belief),("purse",.int (p.purse:Int)),("past",.ref B.b1),("sights",.ref B.b2),("trials",.ref B.b3)]
section
variable {B:QA} {p:bM}
def iH:(f9 B p).lookup ("puzzle":Str)=Z_ (.ref B.A.z):=rfl
def nr:(f9 B p).lookup ("actual":Str)=Z_ (eV p.now):=rfl
def gX:(f9 B p).lookup ("belief":Str)=Z_ (rP p.belief):=rfl
def Iy:(f9 B p).lookup ("purse":Str)=Z_ (.int (p.purse:Int)):=rfl
def Ac:(f9 B p).lookup ("past":Str)=Z_ (.ref B.b1):=rfl
def Ad:(f9 B p).lookup ("sights":Str)=Z_ (.ref B.b2):=rfl
def Ae:(f9 B p).lookup ("trials":Str)=Z_ (.ref B.b3):=rfl
end
structure eP(s:ae)(p:bM)(B:QA)(m:M):Prop where
 puz:et s B.A m
 q:m B.q=Z_ (.ins j_ (f9 B p))
 past:m B.b1=Z_ (.lst (p.past.map Iw))
def kV(v:List Nat):K2:=v.map λ(n:Nat)=>(iE (n:Int):K1)
def X8(v:List Nat):kD (kV v)=eV v:=by unfold kD kV eV dN;rw[bq];rfl
def gg(v:List Nat):oZ (eV v)=Z_ (kV v):=by rw[<-X8];exact HQ _
def s_{a b}(h:kV a=kV b):a=b:=by unfold kV at h;exact G6 (λx y e=>by injection e with e;exact Int.ofNat.inj e) |>.mp h
def t4(s:ae)(v:List Nat)(d:dU):D:=match cj s.puzzle d v with
 |none=>.tup [.tup [.int 0,Iw (ay s v)],eV v]
 |some w=>.tup [.tup [.int 1,Iw (ay s w)],eV w]
def ip(s:ae)(v:List Nat):List D:=s.puzzle.doings.map (t4 s v)
def around(s:ae)(U:List (List Nat)):List (List Nat):=U++U.flatMap λu=>s.puzzle.doings.filterMap λd=>cj s.puzzle d u
structure bT(s:ae)(U:List (List Nat))(B:QA)(m:M):Prop where
 ne:B.b2≠B.b3
 ex:∃S T,m B.b2=Z_ (.dic S)/\m B.b3=Z_ (.dic T)/\(∀e∈S,∃v∈around s U,e=(kV v,Iw (ay s v)))/\(∀e∈T,∃v∈U,e=(kV v,D.lst (ip s v)))/\(S.map (·.1)).Nodup/\(T.map (·.1)).Nodup
structure i_(s:ae)(p:bM)(U:List (List Nat))(B:QA)(m:M):Prop where
 good:mq s
 pl:eP s p B m
 ca:bT s U B m
 ul:U.length<=700000
def Mv(B:QA)(m m':M):Prop:=∀a,a≠B.b2->a≠B.b3->m' a=m a
def Mv.refl(B:QA)(m:M):Mv B m m:=λ_ _ _=>rfl
def Mv.trans{B a b c}(x:Mv B a b)(y:Mv B b c):Mv B a c:=λd h1 e=>(y d h1 e).trans (x d h1 e)
def bT.noL{s U B m a l}(c:bT s U B m)(h:m a=Z_ (.lst l)):a≠B.b2/\a≠B.b3:=by obtain⟨S,T,h1,b,_⟩:=c.ex;exact⟨λe=>(by rw[e,h1]at h;cases h),λe=>(by rw[e,b]at h;cases h)⟩
def bT.noI{s U B m a C b}(c:bT s U B m)(h:m a=Z_ (.ins C b)):a≠B.b2/\a≠B.b3:=by obtain⟨S,T,h1,d,_⟩:=c.ex;exact⟨λe=>(by rw[e,h1]at h;cases h),λe=>(by rw[e,d]at h;cases h)⟩
def bT.noN{s U B m a}(c:bT s U B m)(h:m a=ZZ):a≠B.b2/\a≠B.b3:=by obtain⟨S,T,h1,b,_⟩:=c.ex;exact⟨λe=>(by rw[e,h1]at h;cases h),λe=>(by rw[e,b]at h;cases h)⟩
def eP.mv{s p U B m m'}(h:eP s p B m)(c:bT s U B m)(k:∀a o,m a=Z_ o->a≠B.b2->a≠B.b3->m' a=Z_ o):eP s p B m':=by have kl:∀a l,m a=Z_ (.lst l)->m' a=Z_ (.lst l):=λa l e=>k a _ e (c.noL e).1 (c.noL e).2;have d:∀a C b,m a=Z_ (.ins C b)->m' a=Z_ (.ins C b):=λa C b e=>k a _ e (c.noI e).1 (c.noI e).2;exact⟨⟨d _ _ _ h.puz.z,kl _ _ h.puz.sizes,kl _ _ h.puz.begins,kl _ _ h.puz.spans,kl _ _ h.puz.doings,kl _ _ h.puz.views,kl _ _ h.puz.facts⟩,d _ _ _ h.q,kl _ _ h.past⟩
def i_.mv{s p U B m m'}(h:i_ s p U B m)(k:Mv B m m')(c:bT s U B m'):i_ s p U B m':=⟨h.good,h.pl.mv h.ca λa o e h1 b=>(k a h1 b).trans e,c,h.ul⟩
def bT.congr{s U B m m'}(c:bT s U B m)(a:m' B.b2=m B.b2)(b:m' B.b3=m B.b3):bT s U B m':=by obtain⟨S,T,d,e,r⟩:=c.ex;exact⟨c.ne,S,T,a.trans d,b.trans e,r⟩
def i_.new{s p U B m a o}(h:i_ s p U B m)(c:m a=ZZ):i_ s p U B (bQ m a o):=by obtain⟨d,f⟩:=h.ca.noN c;refine⟨h.good,h.pl.mv h.ca λb u e _ _=>?_,h.ca.congr (ao (aG d)) (ao (aG f)),h.ul⟩;rw[ao];exact e;intro z;subst z;rw[c]at e;cases e
def t5{α:Type}[DecidableEq α]:∀{l r:List α},l.Nodup->(∀x∈l,x∈r)->l.length<=r.length
 |[],_,_,_=>gj _
 |x::l,r,b,c=>by
  have d:x∈r:=c x (by simp);have:=t5 (l:=l) (r:=r.erase x) (bX.mp b).2 λy f=>by
   have a:y≠x:=by intro e;subst e;exact (bX.mp b).1 f
   exact (Co a).mpr (c y (by simp[f]))
  rw[ya d]at this;have hp:0<r.length:=AC d;rw[aZ];lia
def PJ{s:ae}{U:List (List Nat)}(h:s.puzzle.doings.length<=20):(around s U).length<=21*U.length:=by
 unfold around;rw[aK,DS];have:(U.map λu=>(s.puzzle.doings.filterMap λd=>cj s.puzzle d u).length).sum<=20*U.length:=by
  induction U with
  |nil=>simp
  |cons u U ih=>simp only[aQ,yb,aZ];have:=List.length_filterMap_le (λd=>cj s.puzzle d u) s.puzzle.doings;lia
 lia
def lJ{a k d}(h:eF a k=Z_ d):(k,d)∈a:=by
 unfold eF at h;cases b:a.find? (λc=>decide (c.1=k)) with
 |none=>rw[b]at h;cases h
 |some e=>
  rw[b]at h;have h1:=List.find?_some b;have f:=v_ b;cases az h;have:e.1=k:=by simpa using h1
  rwa[<-this]
def wW{a:List (K2×D)}{k}(h:eF a k=ZZ):k∉a.map (·.1):=by unfold eF at h;rw[yt,kZ]at h;intro hm;obtain⟨e,b,rfl⟩:=aF.mp hm;exact h e b (by simp)
def ou{a k d}(h:eF a k=ZZ):yf a k d=a++[(k,d)]:=by unfold yf;rw[i0n];intro b;rw[cx]at b;obtain⟨e,c,f⟩:=b;exact wW h (aF.mpr ⟨e,c,by simpa using f⟩)
def BR{a k d}(h:eF a k=ZZ):eF (a++[(k,d)]) k=Z_ d:=by unfold eF at h ⊢;rw[yt]at h;rw[List.find?_append,h];simp
inductive a4Z:Prop|mk s p U B v:A'=[.ref B.q,eV v]->i_ s p U B B'->v∈around s U->v.length=s.puzzle.sizes.length->(∀a,Mv B B' a->bT s U B a->D' (Iw (ay s v)) a)->a4Z
def BS{s p U B v m Q}(c:i_ s p U B m)(h1:v∈around s U)(a:v.length=s.puzzle.sizes.length)(q:∀m',Mv B m m'->bT s U B m'->Q (Iw (ay s v)) m'):a4Z [.ref B.q,eV v] m Q:=⟨s,p,U,B,v,rfl,c,h1,a,q⟩
def L8{l:List K2}{k}(h:l.Nodup)(d:k∉l):(l++[k]).Nodup:=by rw[eE];exact⟨h,by simp,λa f b c=>by simp at c;subst c;intro e;subst e;exact d f⟩
def PK:dR (KW a5c) Ej a4Z:=by
 intro ds m Q h;obtain⟨s,p,U,B,v,rfl,c,t,g,q⟩:=h;obtain⟨S,T,i,u,j,y,r,z⟩:=c.ca.ex;have b:=c.pl.q;have A:=c.ca.noI b;dsimp[KW,Ej,aW _ b,Ad,gg,iM i];cases f:eF S (kV v) with
 |some d=>
  obtain⟨w,hw,C⟩:=j _ (lJ f);injection C with k l
  have:=s_ k;subst this l;dsimp[aW _ b,Ad,gg,iM i,f];exact .ret (q m (Mv.refl B m) c.ca)
 |none=>
  dsimp[aW _ b,iH];refine qV c.pl.puz g (by have:=c.good.vars;lia) c.good.views ?_;have hlen:S.length<16000000:=by
   have h1:(S.map (·.1)).length<=((around s U).map kV).length:=t5 r λx D=>by obtain⟨e,n,rfl⟩:=aF.mp D;obtain⟨w,hw,rfl⟩:=j e n;exact aF.mpr ⟨w,hw,rfl⟩
   rw[ah,ah]at h1;have:=PJ (U:=U) c.good.a1T;have:=c.ul;lia
  dsimp[aW _ b,Ad,gg,i,hlen,ou f];have o:(bQ m B.b2 (.dic (S++[(kV v,.tup (dN (ay s v)))]))) B.q=Z_ (.ins j_ (f9 B p)):=by rwa[ao A.1]
  dsimp[aW _ o,Ad,gg,BR f];refine .ret (q _ (λa h1 h2=>ao h1) ⟨c.ca.ne,_,T,aS,by rwa[ao (aG c.ca.ne)],λe n=>?_,y,?_,z⟩)
  .rcases aX.mp n with h|h
   .exact j e h
   .rw[bb]at h;exact⟨v,t,h⟩
  .rw[bU];exact L8 r (wW f)
def QZ{α:Type}{J:RW}{T:Tg}{tt te σ2 p m fin}(xs:List α)(f:α->D)(g:α->Option D)(t:J.items=xs.map f)(cq:M->Prop)(v:cq (bQ m p (.lst [])))(o:∀m' acc,cq m'->cq (bQ m' p (.lst acc)))(ok:∀m',cq m'->J.ok m')
  (turn:∀x∈xs,∀m' acc,cq m'->m' p=Z_ (.lst acc)->∀(A:D->M->Prop) (B:M->Prop),(∀e a,g x=Z_ e->cq a->a p=Z_ (.lst acc)->A e a)->(∀a,g x=ZZ->cq a->a p=Z_ (.lst acc)->B a) ->
   T.set (f x) σ2 λσ2=>tt σ2 m' λb u=>if b=ZY then te σ2 u A else B u)
  (q:∀m',cq m'->m' p=Z_ (.lst (xs.filterMap g))->fin (xs.filterMap g) m'):A4 J T tt te σ2 p m fin:=by
 refine⟨λi acc m'=>acc=(xs.take i).filterMap g/\cq m'/\m' p=Z_ (.lst acc),⟨rfl,v,aS⟩,λi acc m' _ h=>⟨h.2.2,ok m' h.2.1⟩,λi d acc m' k ⟨l,r,hm⟩=>?_,λacc m' ⟨l,r,hm⟩=>?_⟩
 .rw[t,aR]at k;cases n:xs[i]? with
  |none=>rw[n]at k;cases k
  |some x=>
   rw[n]at k;cases az k;refine turn x (aJ n) m' acc r hm _ _ (λe a s c j=>⟨j,?_,o _ _ c,aS⟩) λa s c j=>⟨?_,c,j⟩
   .rw[oo g n,<-l,s];rfl
   .rw[oo g n,<-l,s];simp
 .rw[t,ah,cO]at l;subst l;exact q m' r hm
inductive a0w:Prop|mk s p U B v d:A'=[.ref B.q,eV v,uQ d]->i_ s p U B B'->v∈U->nB s v->d∈s.puzzle.doings->(∀a,Mv B B' a->bT s U B a->D' (t4 s v d) a)->a0w
def FP{s U v}(h:v∈U):v∈around s U:=b9 _ h
def O4{s:ae}{U v w d}(h:v∈U)(a:d∈s.puzzle.doings)(e:cj s.puzzle d v=Z_ w):w∈around s U:=cG _ (gS.mpr ⟨v,h,dz.mpr ⟨d,a,e⟩⟩)
def UG:dR (QV a5Y a4Z) Mf a0w:=by
 intro ds m Q h;obtain⟨s,p,U,B,v,d,rfl,c,i,b,e,q⟩:=h;have j:=c.pl.q;dsimp[QV,Mf,aW _ j,iH];refine⟨s,B.A,d,v,rfl,c.pl.puz,b,c.good.doings d e,?_⟩;unfold t4 at q;cases a:cj s.puzzle d v with
 |none=>rw[a]at q;dsimp[YG];refine BS c (FP i) b.len λf h1 g=>?_;exact .ret (q f h1 g)
 |some w=>rw[a]at q;have hw:=D9 b (c.good.doings d e) a;dsimp[YG,eV];refine BS (v:=w) c (O4 i e a) hw.len λf h1 g=>?_;exact .ret (q f h1 g)
inductive a2b:Prop|mk s p U B v:A'=[.ref B.q,eV v]->i_ s p U B B'->v∈U->nB s v->(∀a,Mv B B' a->bT s U B a->D' (.lst (ip s v)) a)->a2b
def ow{s p U B v m Q}(c:i_ s p U B m)(h1:v∈U)(a:nB s v)(q:∀m',Mv B m m'->bT s U B m'->Q (.lst (ip s v)) m'):a2b [.ref B.q,eV v] m Q:=⟨s,p,U,B,v,rfl,c,h1,a,q⟩
def Z8(B:QA)(a:ak)(m m':M):Prop:=∀b,b≠B.b2->b≠B.b3->b≠a->m' b=m b
nonrec def Z8.del{B a m m'}(h:Z8 B a m m')(c:m a=ZZ):Mv B m (jd m' a):=λb h1 d=>by
 unfold jd;split
 .rename_i e;subst e;exact c.symm
 .rename_i e;exact h b h1 d e
def gh{m a b}(h:b≠a):jd m a b=m b:=by unfold jd;rw[i0n h]
def i_.mvA{s p U B m m' a}(h:i_ s p U B m)(d:m a=ZZ)(k:Z8 B a m m')(c:bT s U B m'):i_ s p U B m':=⟨h.good,h.pl.mv h.ca λb o e h1 f=>(k b h1 f (by intro z;subst z;rw[d]at e;cases e)).trans e,c,h.ul⟩
nonrec def Mq:dR (FF a0w) zb a2b:=by
 intro ds m Q h;obtain⟨s,p,U,B,v,rfl,c,hv,I,q⟩:=h;obtain⟨S,T,e1,e2,hS,hT,nS,nT⟩:=c.ca.ex;have H:=c.pl.q;have n1:=c.ca.noI H;dsimp[FF,zb,aW _ H,Ae,gg,iM e2];cases hl:eF T (kV v) with
 |some d=>
  obtain⟨w,hw,J⟩:=hT _ (lJ hl);injection J with r t
  have:=s_ r;subst this t;dsimp[aW _ H,Ae,gg,iM e2,hl];exact .ret (q m (Mv.refl B m) c.ca)
 |none=>
  dsimp[ku,cS,aW _ H,iH,aW _ c.pl.puz.z,vI,f_,c.pl.puz.doings,kS];intro a E;have na:∀{b o},m b=Z_ o->b≠a:=λ{b o} h e=>by subst e;rw[E]at h;cases h
  have f:=c.ca.noN E;have K:∀{i k:M},Z8 B a m i->Mv B i k->Z8 B a m k:=λh1 L b l n A=>(L b l n).trans (h1 b l n A);refine QZ s.puzzle.doings uQ (λd=>Z_ (t4 s v d)) rfl (λi=>Z8 B a m i/\bT s U B i) ⟨λb _ _ h=>ao h,c.ca.congr (ao (aG f.1)) (ao (aG f.2))⟩
   (λi N h=>⟨λb l n A=>(ao A).trans (h.1 b l n A),h.2.congr (ao (aG f.1)) (ao (aG f.2))⟩) (λi h=>(c.mvA E h.1 h.2).pl.puz.doings) (λd hd i N h hm X Y hX hY=>?_) λi h hm=>?_
  .dsimp[ib];refine⟨s,p,U,B,v,d,rfl,c.mvA E h.1 h.2,hv,I,hd,λk l n=>hX _ k rfl ⟨K h.1 l,n⟩ ?_⟩;rw[l a f.1 f.2];exact hm
  .have e:s.puzzle.doings.filterMap (λd=>Z_ (t4 s v d))=ip s v:=rh λ_ _=>rfl;rw[e];have cd:bT s U B (jd i a):=h.2.congr (gh (aG f.1)) (gh (aG f.2));have md:Mv B m (jd i a):=h.1.del E;have c2:=c.mv md cd;obtain⟨S',C,O,P,R,j,V,u⟩:=cd.ex;have F:=c2.pl.q;have hlen:C.length<16000000:=by
    have h1:(C.map (·.1)).length<=(U.map kV).length:=t5 u λx hx=>by obtain⟨e,G,rfl⟩:=aF.mp hx;obtain⟨w,hw,rfl⟩:=j e G;exact aF.mpr ⟨w,hw,rfl⟩
    rw[ah,ah]at h1;have:=c.ul;lia
   dsimp[aW _ F,Ae,gg,P,hlen];obtain⟨y,W,l,n,A⟩:∃y,yf C (kV v) (.lst (ip s v))=y/\eF y (kV v)=Z_ (.lst (ip s v))/\(∀e∈y,∃v∈U,e=(kV v,D.lst (ip s v)))/\(y.map (·.1)).Nodup:=by
    cases g:eF C (kV v) with
    |none=>
     refine⟨_,ou g,BR g,λe G=>?_,?_⟩
     .rcases aX.mp G with h|h
      .exact j e h
      .rw[bb]at h;exact⟨v,hv,h⟩
     .rw[bU];exact L8 u (wW g)
    |some d=>
     obtain⟨w,hw,J⟩:=j _ (lJ g);injection J with r t
     have:=s_ r;subst this t;refine⟨C,?_,g,j,u⟩;unfold yf;rw[i0p (by rw[cx];exact⟨_,lJ g,by simp⟩)];conv=>rhs;rw[<-Cn C]
     refine bO λe G=>?_;split
     .rename_i hk;obtain⟨w,hw,rfl⟩:=j e G;have:=s_ hk;subst this;rfl
     .rfl
   rw[W];have Z:(bQ (jd i a) B.b3 (.dic y)) B.q=Z_ (.ins j_ (f9 B p)):=by rwa[ao n1.2]
   simp only[aW _ Z,Ae,Pz,l];exact .ret (q _ (md.trans λb h1 L=>ao L) ⟨c.ca.ne,S',y,by rwa[ao c.ca.ne],aS,R,n,V,A⟩)
def O5{α:Type}(f:α->Option (List Nat)):∀(l:List α) (k i:Nat) (d:α),l[i]?=Z_ d->((l.zipIdx k).filterMap λx=>(f x.1).map λw=>(x.2,w)).find? (λa=>a.1==k+i)=(f d).map λw=>(k+i,w)
 |[],k,i,d,h=>by simp at h
 |x::l,k,0,d,h=>by
  have e:x=d:=by simpa using h
  subst e;rw[g9,dD];cases j:f x with
  |some w=>simp
  |none=>
   simp only[A2];rw[kZ];intro a m;obtain⟨y,n,b⟩:=dz.mp m;have:=List.le_snd_of_mem_zipIdx n;cases c:f y.1 with
   |none=>rw[c]at b;cases b
   |some w=>rw[c]at b;cases az b;simp;lia
 |x::l,k,i+1,d,h=>by
  rw[g9,dD];have g:=O5 f l (k+1) i d (by simpa using h);have e:k+1+i=k+(i+1):=by lia
  rw[e]at g;cases j:f x with
  |none=>simpa using g
  |some w=>simp only[dZ];rwa[d6 (by simp)]
def Dc{s:ae}{i:Nat}{d v}(h:s.puzzle.doings[i]?=Z_ d):bN (a9 s) i v=match cj s.puzzle d v with
  |some w=>(ZY,w)
  |none=>(ZX,v):=by
 unfold bN a9 Vberab.game;simp only[Vberab.actsOf];have:=O5 (λd=>cj s.puzzle d v) s.puzzle.doings 0 i d h;simp only[n9]at this;rw[this];cases cj s.puzzle d v<;>rfl
def L9{s:ae}{i:Nat}{d v}(h:s.puzzle.doings[i]?=Z_ d):t4 s v d=.tup [.tup [.int (if (bN (a9 s) i v).1=ZY then 1 else 0),Iw (ay s (bN (a9 s) i v).2)],eV (bN (a9 s) i v).2]:=by rw[Dc h];unfold t4;cases cj s.puzzle d v<;>rfl
def wX:List Nat->K2
 |[]=>[]
 |n::r=>[iE (n:Int),l4 (zI r)]
def Iz{a b}(d:a≠[])(e:b≠[])(h:wX a=wX b):a=b:=by
 cases a with
 |nil=>exact absurd rfl d
 |cons x a=>
  cases b with
  |nil=>exact absurd rfl e
  |cons y b=>
   unfold wX at h;injection h with h1 c
   injection h1 with h1
   injection c with c _
   injection c with c
   rw[Int.ofNat.inj h1,UF c]
def Q_(n:Nat)(r:List Nat):kD (wX (n::r))=.tup [.int (n:Int),Iw r]:=by unfold kD wX Iw;rw[FO];rfl
def BU{s}{i:Nat}{v}:bH (a9 s) (ay s) i v≠[]:=by unfold bH;simp
def Bn{s}{i:Nat}{v}:oZ (.tup [.int (if (bN (a9 s) i v).1=ZY then 1 else 0),Iw (ay s (bN (a9 s) i v).2)])=Z_ (wX (bH (a9 s) (ay s) i v)):=by
 have:(.tup [.int (if (bN (a9 s) i v).1=ZY then 1 else 0),Iw (ay s (bN (a9 s) i v).2)]:D)=kD (wX (bH (a9 s) (ay s) i v)):=by unfold bH;simp only;rw[Q_];cases (bN (a9 s) i v).1<;>rfl
 rw[this];exact HQ _
def m7(b:List (List Nat)):List (K2×D):=b.map λt=>(kV t,.bl ZY)
abbrev Mr:=List (List Nat×List (List Nat))
def Dd(l:Mr):D:=.dic (l.map λo=>(wX o.1,.dic (m7 o.2)))
inductive Wl:MO->D->Prop
 |lst (l:List D):Wl (.lst l) (.lst l)
 |dic (l:List (K2×D)):Wl (.dic l) (.dic l)
def A7.fr{Q a o x d d' m m'}(e:m a=Z_ o)(f:Wl o x)(b:Vs a x d d')(c:Ut a x m m')(k:A7 Q d' m'):A7 Q d m:=by
 cases f with
 |lst l=>exact .lst a l e b c k
 |dic l=>exact .dic a l e b c k
def ua{α:Type}{R}(h:∀x,R x x):∀l:List α,cE R l l
 |[]=>.nil
 |x::l=>.cons (h x) (ua h l)
def BV{α β:Type}{R}:∀{a:List α} {b:List β} {c:List α} {d:List β},cE R a b->cE R c d->cE R (a++c) (b++d):=by
 intro a b c d h g;induction h with
 |nil=>exact g
 |cons x _ e=>exact .cons x e
nonrec def A7.nest{Q c m0}:∀(rest:List (K2×ak×MO×D)) (f:List (K2×D)) (m:M),m c=Z_ (.dic (f++rest.map λr=>(r.1,D.ref r.2.1))) ->
  (∀r∈rest,m r.2.1=Z_ r.2.2.1/\Wl r.2.2.1 r.2.2.2/\r.2.1≠c/\m0 r.2.1=ZZ)->(rest.map λr=>r.2.1).Nodup->m0 c=ZZ->(∀b o,m0 b=Z_ o->m b=Z_ o)->Q (.dic (f++rest.map λr=>(r.1,r.2.2.2))) m0->A7 Q (.ref c) m
 |[],f,m,n,_,_,j,s,q=>by refine A7.fr n (.dic _) (.inr ⟨rfl,rfl⟩) (m':=m0) (λb o h=>⟨λe=>?_,o,s b o h,.same⟩) (.ret q);subst e;rw[j]at h;cases h
 |(k,a,o,x)::rest,f,m,n,v,t,j,s,q=>by
  obtain⟨h1,w,y,z⟩:=v (k,a,o,x) (by simp);simp only at h1 w y z;have d:=bX.mp t;refine A7.fr h1 w (d':=.ref c) (.inl rfl) (m':=bQ (jd m a) c (.dic ((f++[(k,x)])++rest.map λr=>(r.1,D.ref r.2.1)))) (λb u h=>?_) ?_
  .by_cases l:b=c
   .subst l;rw[aS]at h;cases h;refine⟨aG y,_,n,.dic ?_⟩;rw[dw];refine BV (ua (λp=>⟨rfl,.inl rfl⟩) f) (.cons ⟨rfl,.inr ⟨rfl,rfl⟩⟩ (ua (λp=>⟨rfl,.inl rfl⟩) _))
   .rw[ao l]at h;unfold jd at h;split at h
    .cases h
    .rename_i g;exact⟨g,u,h,.same⟩
  .refine A7.nest rest (f++[(k,x)]) _ aS (λr i=>?_) d.2 j (λb u h=>?_) (by rwa[dw])
   .obtain⟨B,C,A,E⟩:=v r (by simp[i]);refine⟨?_,C,A,E⟩;rw[ao A,gh];exact B;intro e;exact d.1 (by rw[<-e];exact aF.mpr ⟨r,i,rfl⟩)
   .have l:b≠c:=by intro e;subst e;rw[j]at h;cases h
    have g:b≠a:=by intro e;subst e;rw[z]at h;cases h
    rw[ao l,gh g];exact s b u h
def base(B:QA)(m m':M):M:=λb=>if b=B.b2\/b=B.b3 then m' b else m b
def wY(B:QA)(m m':M):Mv B m (base B m m'):=λa h1 b=>by unfold base;rw[i0n (by simp[h1,b])]
def wZ{s U B m m'}(c:bT s U B m'):bT s U B (base B m m'):=c.congr (by unfold base;rw[i0p (.inl rfl)]) (by unfold base;rw[i0p (.inr rfl)])
def oW(B:QA)(m m':M):Prop:=∀a o,m a=Z_ o->a≠B.b2->a≠B.b3->m' a=Z_ o
def oW.refl(B:QA)(m:M):oW B m m:=λ_ _ h _ _=>h
def oW.mv{B a b c}(x:oW B a b)(y:Mv B b c):oW B a c:=λd o h h1 e=>(y d h1 e).trans (x d o h h1 e)
def oW.new{B m m' p o}(x:oW B m m')(h:m p=ZZ):oW B m (bQ m' p o):=λa u e h1 b=>by rw[ao];exact x a u e h1 b;intro z;subst z;rw[h]at e;cases e
nonrec def oW.base{B m m'}(k:oW B m m'):Cj (base B m m') m':=λb o h=>by
 unfold L3.base at h;split at h
 .exact h
 .rename_i a;exact k b o h (λe=>a (.inl e)) (λe=>a (.inr e))
def i_.keep{s p U B m m'}(h:i_ s p U B m)(k:oW B m m')(c:bT s U B m'):i_ s p U B m':=⟨h.good,h.pl.mv h.ca k,c,h.ul⟩
def IA{s}{b:List (List Nat)}{t}:Vberaf.has (a9 s) b t=b.any λx=>x==t:=rfl
nonrec def UH{s b t}:yf (m7 b) (kV t) (.bl ZY)=m7 (gN (a9 s) b t):=by
 unfold gN;rw[IA];by_cases h:(b.any λx=>x==t)=ZY
 .rw[i0p h];unfold yf;have c:((m7 b).any λf=>decide (f.1=kV t))=ZY:=by
   rw[cx]at h ⊢;obtain⟨x,a,e⟩:=h;exact⟨(kV x,.bl ZY),aF.mpr ⟨x,a,rfl⟩,by simp[show x=t from by simpa using e]⟩
  rw[i0p c];unfold m7;rw[bq];refine bO λx a=>?_;simp only[df];split
  .rename_i e;rfl
  .rfl
 .rw[i0n h];have c:eF (m7 b) (kV t)=ZZ:=by
   cases g:eF (m7 b) (kV t) with
   |none=>rfl
   |some d=>
    exfalso;obtain⟨x,a,e⟩:=aF.mp (lJ g);injection e with i e2
    refine h (cx.mpr ⟨x,a,?_⟩);rw[s_ i];simp
  rw[ou c];simp[m7]
def R0{s}{b:List (List Nat)}{t}:(gN (a9 s) b t).length<=b.length+1:=by
 unfold gN;split
 .lia
 .simp
abbrev R1:=List Nat×List (List Nat)×ak
def xS(G:List R1):List (K2×D):=G.map λx=>(wX x.1,D.ref x.2.2)
def w_(G:List R1):Mr:=G.map λx=>(x.1,x.2.1)
def Ms(s:ae)(n t:List Nat)(G:List R1):List R1:=G.map λx=>if x.1=n then (x.1,gN (a9 s) x.2.1 t,x.2.2) else x
def PL{s}{i:Nat}{v G}{x:R1}(a:x∈G)(e:x.1=bH (a9 s) (ay s) i v):
  eZ (a9 s) (ay s) i (w_ G) v=w_ (Ms s (bH (a9 s) (ay s) i v) (bN (a9 s) i v).2 G):=by
 unfold eZ;simp only;rw[i0p]
 .unfold w_ Ms;rw[bq,bq];refine bO λy hy=>?_;simp only[df];split<;>rfl
 .rw[cx];exact⟨(x.1,x.2.1),aF.mpr ⟨x,a,rfl⟩,by simp[e]⟩
def O6{s}{i:Nat}{v G a}(h:∀x∈G,x.1≠bH (a9 s) (ay s) i v):
  eZ (a9 s) (ay s) i (w_ G) v=w_ (G++[(bH (a9 s) (ay s) i v,[(bN (a9 s) i v).2],a)]):=by
 unfold eZ;simp only;rw[i0n]
 .simp[w_]
 .rw[cx];rintro⟨y,b,e⟩;obtain⟨x,c,rfl⟩:=aF.mp b;exact h x c (by simpa using e)
structure a1R(B:QA)(g0:ak)(m m':M)(j:Nat)(G:List R1):Prop where
 grp:m' g0=Z_ (.dic (xS G))
 a1Y:m g0=ZZ
 each:∀x∈G,m' x.2.2=Z_ (.dic (m7 x.2.1))/\x.2.2≠g0/\m x.2.2=ZZ
 nd:(G.map λx=>x.2.2).Nodup
 keys:(G.map λx=>x.1).Nodup
 ne:∀x∈G,x.1≠[]
 len:G.length<=j
 a3J:∀x∈G,x.2.1.length<=j
 keep:oW B m m'
def Wm{G:List R1}{x:R1}(a:x∈G)(ne:∀y∈G,y.1≠[])(b:(G.map λx=>x.1).Nodup):eF (xS G) (wX x.1)=Z_ (.ref x.2.2):=by
 induction G with
 |nil=>cases a
 |cons y G c=>
  unfold xS;rw[aQ,mP];rw[aQ,bX]at b;by_cases e:wX y.1=wX x.1
  .rw[i0p e];have d:=Iz (ne y (by simp)) (ne x a) e;rcases aL.mp a with h|h
   .rw[h]
   .exact absurd (aF.mpr ⟨x,h,d.symm⟩) b.1
  .rw[i0n e];rcases aL.mp a with h|h
   .exact absurd (by rw[h]) e
   .exact c h (λz f=>ne z (by simp[f])) b.2
def UI{G n}(b:n≠[])(ne:∀y∈G,y.1≠[])(h:∀x∈G,x.1≠n):eF (xS G) (wX n)=ZZ:=by
 cases c:eF (xS G) (wX n) with
 |none=>rfl
 |some d=>
  exfalso;obtain⟨x,a,e⟩:=aF.mp (lJ c);injection e with f e2
  exact h x a (Iz (ne x a) b f)
inductive a5e:Prop|mk s p U B a i:A'=[.ref B.q,rP a,.int ((i:Nat):Int)]->i_ s p U B B'->(∀v∈a,v∈U/\nB s v)->i<s.puzzle.doings.length->a.length<=1000->(∀b,Mv B B' b->bT s U B b->D' (Dd (bE (a9 s) (ay s) a i)) b)->a5e
def yg:dR (ql a2b) ll a5e:=by
 intro ds m Q h;obtain⟨s,p,U,B,P,i,rfl,c,R,hi,hlen,q⟩:=h;obtain⟨d,hd⟩:∃d,s.puzzle.doings[i]?=Z_ d:=⟨_,aj hi⟩
 simp only[rP];dsimp[ql,ll,dQ,cS,f_];intro T V
 let I1:LI3:=λj σ J=>∃(x1 x2 x3:Option D) (G:List R1),σ=[Z_ (.ref B.q),Z_ (.tup (P.map eV)),Z_ (.int (i:Int)),Z_ (.ref T),x1,x2,x3]/\a1R B T m J j G/\bT s U B J/\w_ G=(P.take j).foldl (eZ (a9 s) (ay s) i) []
 refine⟨I1,?_,λ_ _ _ _ _=>trivial,?_,?_⟩
 .have n:=c.ca.noN V;exact⟨ZZ,ZZ,ZZ,[],rfl,⟨aS,V,by simp,by simp,by simp,by simp,by simp,by simp,(oW.refl B m).new V⟩,c.ca.congr (ao (aG n.1)) (ao (aG n.2)),rfl⟩
 .rintro j dd σ J hdd ⟨x1,x2,x3,G,rfl,ok,ca,ho⟩;obtain⟨v,hv,rfl⟩:=VG hdd;obtain⟨hvU,hvok⟩:=R v (aJ hv);have hjl:=(ax.mp hv).1;dsimp[];refine ow (c.keep ok.keep ca) hvU hvok λm1 h1 h2=>?_;have hat:tL (ip s v) (i:Int)=Z_ (t4 s v d):=d9 (by simp[ip,hd]);have f:a1R B T m m1 j G:=by
   have nog:=ca.noN (a:=T);have K:∀{a S},J a=Z_ (.dic S)->m a=ZZ->a≠B.b2/\a≠B.b3:=λ{a S} _ hm=>c.ca.noN hm;refine⟨?_,ok.a1Y,λx g=>?_,ok.nd,ok.keys,ok.ne,ok.len,ok.a3J,ok.keep.mv h1⟩
   .have:=K ok.grp ok.a1Y;rw[h1 _ this.1 this.2];exact ok.grp
   .obtain⟨E,O,L⟩:=ok.each x g;have:=K E L;exact⟨by rwa[h1 _ this.1 this.2],O,L⟩
  rw[L9 hd]at hat;have W:=BU (s:=s) (i:=i) (v:=v);dsimp[hat,gF,lT,Bn,f.grp];intro w u;have A:m w=ZZ:=by
   cases hm:m w with
   |none=>rfl
   |some o=>have M:=h2.noN u;have:=f.keep w o hm M.1 M.2;rw[u]at this;cases this
  have N:w≠T:=by intro e;subst e;rw[f.grp]at u;cases u
  have M:=h2.noN u;have hgk:(bQ m1 w (.dic [])) T=Z_ (.dic (xS G)):=by rw[ao (aG N)];exact f.grp
  have hlG:(xS G).length<1000000:=by unfold xS;rw[ah];have:=f.len;lia
  simp only[hgk,hlG,if_true];generalize hN:bH (a9 s) (ay s) i v=n at W;generalize hT:(bN (a9 s) i v).2=t;have I:(P.take (j+1)).foldl (eZ (a9 s) (ay s) i) []=eZ (a9 s) (ay s) i (w_ G) v:=by rw[eW hv,gD,ho];rfl
  by_cases F:∃x∈G,x.1=n
  .obtain⟨x,g,hxn⟩:=F;subst hxn;obtain⟨E,O,L⟩:=f.each x g;have hla:=Wm g f.ne f.keys;have npx:x.2.2≠w:=by intro e;rw[e,u]at E;cases E
   have hxa:(bQ m1 w (.dic [])) x.2.2=Z_ (.dic (m7 x.2.1)):=by rwa[ao npx]
   have hls:(m7 x.2.1).length<16000000:=by unfold m7;rw[ah];have:=f.a3J x g;lia
   dsimp[hla,gg,hxa,hls,UH (s:=s)];have nx:=c.ca.noN L;refine⟨_,_,_,Ms s x.1 t G,rfl,⟨?_,f.a1Y,λy C=>?_,?_,?_,λy C=>?_,?_,λy C=>?_,(f.keep.new A).new L⟩,h2.congr ?_ ?_,?_⟩
   .rw[ao (aG O),hgk]
    congr 2
    unfold xS Ms;rw[bq];refine bO λy C=>?_;simp only[df];split<;>rfl
   .obtain⟨z,H,rfl⟩:=aF.mp C;obtain⟨z1,z2,z3⟩:=f.each z H;by_cases e:z.1=x.1
    .have ezx:z=x:=by
      have X:∀(l:List R1),(l.map λx=>x.1).Nodup->x∈l->z∈l->z.1=x.1->z=x:=by
       intro l;induction l with
       |nil=>intro _ h;cases h
       |cons y l ih=>
        intro k g H e;rw[aQ,bX]at k;rcases aL.mp g with h|h<;>rcases aL.mp H with h'|h'
        .rw[h,h']
        .exact absurd (aF.mpr ⟨z,h',by rw[e,h]⟩) k.1
        .exact absurd (aF.mpr ⟨x,h,by rw[<-e,h']⟩) k.1
        .exact ih k.2 h h' e
      exact X G f.keys g H e
     subst ezx;rw[i0p rfl];exact⟨aS,z2,z3⟩
    .rw[i0n e];have K:z.2.2≠x.2.2:=by
      intro e2;have X:∀(l:List R1),(l.map λx=>x.2.2).Nodup->x∈l->z∈l->z.2.2=x.2.2->z=x:=by
       intro l;induction l with
       |nil=>intro _ h;cases h
       |cons y l ih=>
        intro k g H e;rw[aQ,bX]at k;rcases aL.mp g with h|h<;>rcases aL.mp H with h'|h'
        .rw[h,h']
        .exact absurd (aF.mpr ⟨z,h',by rw[e,h]⟩) k.1
        .exact absurd (aF.mpr ⟨x,h,by rw[<-e,h']⟩) k.1
        .exact ih k.2 h h' e
      exact e (by rw[X G f.nd g H e2])
     have npz:z.2.2≠w:=by intro e;rw[e,u]at z1;cases z1
     exact⟨by rwa[ao K,ao npz],z2,z3⟩
   .have:(Ms s x.1 t G).map (λx=>x.2.2)=G.map λx=>x.2.2:=by
     unfold Ms;rw[bq];refine bO λy C=>?_;simp only[df];split<;>rfl
    rw[this];exact f.nd
   .have:(Ms s x.1 t G).map (λx=>x.1)=G.map λx=>x.1:=by
     unfold Ms;rw[bq];refine bO λy C=>?_;simp only[df];split<;>rfl
    rw[this];exact f.keys
   .obtain⟨z,H,rfl⟩:=aF.mp C;split
    .exact f.ne z H
    .exact f.ne z H
   .unfold Ms;rw[ah];have:=f.len;lia
   .obtain⟨z,H,rfl⟩:=aF.mp C;have:=f.a3J z H;split
    .have:=R0 (s:=s) (b:=z.2.1) (t:=t);simp only;lia
    .lia
   .rw[ao (aG nx.1),ao (aG M.1)]
   .rw[ao (aG nx.2),ao (aG M.2)]
   .rw[I,PL g hN.symm,hN,hT]
  .have F:∀x∈G,x.1≠n:=λx g e=>F ⟨x,g,e⟩;have hlo:=UI W f.ne F;simp only[hlo];have hpp2:(bQ (bQ m1 w (.dic [])) T (.dic (yf (xS G) (wX n) (.ref w)))) w=Z_ (.dic []):=by rw[ao N,aS]
   have h0:(0:Nat)<16000000:=by decide
   dsimp[gg,hpp2,h0];have Y:∀x∈G,x.2.2≠w:=λx g e=>by obtain⟨E,_,_⟩:=f.each x g;rw[e,u]at E;cases E
   have ng0:=c.ca.noN f.a1Y;refine⟨_,_,_,G++[(n,[t],w)],rfl,⟨?_,f.a1Y,λy C=>?_,?_,?_,λy C=>?_,?_,λy C=>?_,((f.keep.new A).new f.a1Y).new A⟩,h2.congr ?_ ?_,?_⟩
   .rw[ao (aG N),aS,ou hlo];simp[xS]
   .rcases aX.mp C with h|h
    .obtain⟨E,O,L⟩:=f.each y h;exact⟨by rwa[ao (Y y h),ao O,ao (Y y h)],O,L⟩
    .rw[bb]at h;subst h;exact⟨by rw[aS];rfl,N,A⟩
   .rw[bU,eE];exact⟨f.nd,by simp,λa Z b R=>by obtain⟨x,g,rfl⟩:=aF.mp Z;simp at R;subst R;exact Y x g⟩
   .rw[bU,eE];exact⟨f.keys,by simp,λa Z b R=>by obtain⟨x,g,rfl⟩:=aF.mp Z;simp at R;subst R;exact F x g⟩
   .rcases aX.mp C with h|h
    .exact f.ne y h
    .rw[bb]at h;subst h;exact W
   .rw[aK];have:=f.len;simp;lia
   .rcases aX.mp C with h|h
    .have:=f.a3J y h;lia
    .rw[bb]at h;subst h;simp
   .rw[ao (aG M.1),ao (aG ng0.1),ao (aG M.1)]
   .rw[ao (aG M.2),ao (aG ng0.2),ao (aG M.2)]
   .rw[I,O6 (a:=w) (by rwa[hN]),hN,hT]
 .rintro σ J ⟨x1,x2,x3,G,rfl,ok,ca,ho⟩;rw[ah,cO]at ho;dsimp[];have hb0:∀a,m a=ZZ->base B m J a=ZZ:=λa Z=>by
   unfold base;have:=c.ca.noN Z;rwa[i0n (by simp[this.1,this.2])]
  refine A7.nest (m0:=base B m J) (G.map λx=>(wX x.1,x.2.2,.dic (m7 x.2.1),.dic (m7 x.2.1))) [] J ?_ (λr hr=>?_) ?_ (hb0 _ ok.a1Y) (oW.base ok.keep) ?_
  .rw[ok.grp];simp[xS,df]
  .obtain⟨x,g,rfl⟩:=aF.mp hr;obtain⟨E,O,L⟩:=ok.each x g;exact⟨E,.dic _,O,hb0 _ L⟩
  .rw[bq];exact ok.nd
  .have:=q (base B m J) (wY B m J) (wZ ca);unfold bE at this;rw[<-ho]at this;unfold Dd w_ at this;rw[bq]at this;rwa[oP,bq]
structure Ez(s:ae)(i:Nat)(bel:List (List Nat))(l:Mr):Prop where
 ne:∀o∈l,o.1≠[]
 from_:∀o∈l,∀t∈o.2,∃v∈bel,t=(bN (a9 s) i v).2
 len:∀o∈l,o.2.length<=bel.length
 nd:∀o∈l,o.2.Nodup
 all:∀v∈bel,∃o∈l,o.1=bH (a9 s) (ay s) i v/\(bN (a9 s) i v).2∈o.2
 head:∀o∈l,∃v∈bel,o.1=bH (a9 s) (ay s) i v
 pos:∀o∈l,o.2≠[]
 keys:(l.map λo=>o.1).Nodup
 count:l.length<=bel.length
nonrec def Hh{s b t x}:x∈gN (a9 s) b t↔x∈b\/x=t:=by
 unfold gN;rw[IA];split
 .rename_i h;constructor
  .exact .inl
  .rintro (a|rfl)
   .exact a
   .rw[cx]at h;obtain⟨y,c,e⟩:=h;rwa[<-show y=x from by simpa using e]
 .simp
nonrec def Sh{s}{b:List (List Nat)}{t}(h:b.Nodup):(gN (a9 s) b t).Nodup:=by
 unfold gN;rw[IA];split
 .exact h
 .rename_i d;rw[eE];refine⟨h,by simp,λa f b c=>?_⟩;simp at c;subst c;intro e;subst e;exact d (cx.mpr ⟨a,f,by simp⟩)
nonrec def Si{s}{i:Nat}{q l v}(h:Ez s i q l):Ez s i (q++[v]) (eZ (a9 s) (ay s) i l v):=by
 unfold eZ;simp only;generalize A:bH (a9 s) (ay s) i v=n;generalize B:(bN (a9 s) i v).2=t;have E:n≠[]:=by rw[<-A];exact BU
 by_cases g:(l.any λx=>x.1==n)=ZY
 .rw[i0p g];have back:∀o∈(l.map λx=>if x.1=n then (x.1,gN (a9 s) x.2 t) else x),∃x∈l,o.1=x.1/\((x.1=n/\o.2=gN (a9 s) x.2 t)\/(x.1≠n/\o.2=x.2)):=by
   intro o c;obtain⟨x,d,rfl⟩:=aF.mp c;refine⟨x,d,?_⟩;split
   .rename_i e;exact⟨rfl,.inl ⟨e,rfl⟩⟩
   .rename_i e;exact⟨rfl,.inr ⟨e,rfl⟩⟩
  have r:∀x∈l,∃o∈(l.map λx=>if x.1=n then (x.1,gN (a9 s) x.2 t) else x),o.1=x.1/\((x.1=n/\o.2=gN (a9 s) x.2 t)\/(x.1≠n/\o.2=x.2)):=by
   intro x d;refine⟨_,aF.mpr ⟨x,d,rfl⟩,?_⟩;split
   .rename_i e;exact⟨rfl,.inl ⟨e,rfl⟩⟩
   .rename_i e;exact⟨rfl,.inr ⟨e,rfl⟩⟩
  refine⟨λo c=>?_,λo c u m=>?_,λo c=>?_,λo c=>?_,λw hw=>?_,λo c=>?_,λo c=>?_,?_,?_⟩
  .obtain⟨x,d,e,_⟩:=back o c;rw[e];exact h.ne x d
  .obtain⟨x,d,e,k⟩:=back o c;rcases k with⟨_,f⟩|⟨_,f⟩
   .rw[f]at m;rcases Hh.mp m with h'|h'
    .obtain⟨w,hw,p⟩:=h.from_ x d u h';exact⟨w,b9 _ hw,p⟩
    .exact⟨v,by simp,by rw[h',B]⟩
   .rw[f]at m;obtain⟨w,hw,p⟩:=h.from_ x d u m;exact⟨w,b9 _ hw,p⟩
  .obtain⟨x,d,e,k⟩:=back o c;have:=h.len x d;rcases k with⟨_,f⟩|⟨_,f⟩
   .rw[f,aK];have:=R0 (s:=s) (b:=x.2) (t:=t);simp;lia
   .rw[f,aK];lia
  .obtain⟨x,d,e,k⟩:=back o c;rcases k with⟨_,f⟩|⟨_,f⟩
   .rw[f];exact Sh (h.nd x d)
   .rw[f];exact h.nd x d
  .rcases aX.mp hw with hw|hw
   .obtain⟨x,d,F,f⟩:=h.all w hw;obtain⟨o,c,p,k⟩:=r x d;refine⟨o,c,p.trans F,?_⟩;rcases k with⟨_,y⟩|⟨_,y⟩
    .rw[y];exact Hh.mpr (.inl f)
    .rwa[y]
   .rw[bb]at hw;subst hw;rw[cx]at g;obtain⟨x,d,e⟩:=g;have e:x.1=n:=by simpa using e
    obtain⟨o,c,p,k⟩:=r x d;refine⟨o,c,by rw[p,e,A],?_⟩;rcases k with⟨_,y⟩|⟨G,_⟩
    .rw[y,B];exact Hh.mpr (.inr rfl)
    .exact absurd e G
  .obtain⟨x,d,e,_⟩:=back o c;obtain⟨w,hw,f⟩:=h.head x d;exact⟨w,b9 _ hw,e.trans f⟩
  .obtain⟨x,d,e,k⟩:=back o c;rcases k with⟨_,f⟩|⟨_,f⟩
   .rw[f];intro z;have:=Hh (s:=s) (b:=x.2) (t:=t) (x:=t) |>.mpr (.inr rfl);rw[z]at this;cases this
   .rw[f];exact h.pos x d
  .have:(l.map λx=>if x.1=n then (x.1,gN (a9 s) x.2 t) else x).map (λo=>o.1)=l.map λo=>o.1:=by
    rw[bq];refine bO λx _=>?_;simp only[df];split<;>rfl
   rw[this];exact h.keys
  .rw[ah,aK];have:=h.count;lia
 .rw[i0n g];have C:∀x∈l,x.1≠n:=λx d e=>g (cx.mpr ⟨x,d,by simp[e]⟩);have j:∀{P:List Nat×List (List Nat)->Prop},(∀o∈l,P o)->P (n,[t])->∀o∈l++[(n,[t])],P o:=by
   intro P h1 H o c;rcases aX.mp c with h|h
   .exact h1 o h
   .rw[bb]at h;subst h;exact H
  refine⟨j h.ne E,j (λo c u m=>?_) ?_,j (λo c=>?_) ?_,j h.nd (by simp),λw hw=>?_,j (λo c=>?_) ?_,j h.pos (by simp),?_,?_⟩
  .obtain⟨w,hw,p⟩:=h.from_ o c u m;exact⟨w,b9 _ hw,p⟩
  .intro u m;simp at m;subst m;exact⟨v,by simp,B.symm⟩
  .rw[aK];have:=h.len o c;lia
  .rw[aK];simp
  .rcases aX.mp hw with hw|hw
   .obtain⟨o,c,e⟩:=h.all w hw;exact⟨o,b9 _ c,e⟩
   .rw[bb]at hw;subst hw;exact⟨(n,[t]),by simp,A.symm,by rw[B];simp⟩
  .obtain⟨w,hw,f⟩:=h.head o c;exact⟨w,b9 _ hw,f⟩
  .exact⟨v,by simp,A.symm⟩
  .rw[bU,eE];refine⟨h.keys,by simp,λa I b D=>?_⟩;obtain⟨x,d,rfl⟩:=aF.mp I;simp at D;subst D;exact C x d
  .rw[aK,aK];have:=h.count;simp;lia
def oz(s:ae)(i:Nat)(a:List (List Nat)):Ez s i a (bE (a9 s) (ay s) a i):=by
 have:∀(r b:List (List Nat)) (l:Mr),Ez s i b l->Ez s i (b++r) (r.foldl (eZ (a9 s) (ay s) i) l):=by
  intro r;induction r with
  |nil=>intro b l h;rwa[e9]
  |cons v r c=>intro b l h;rw[d5];have:=c (b++[v]) _ (Si (v:=v) h);rw[dw]at this;exact this
 exact this a [] [] ⟨by simp,by simp,by simp,by simp,by simp,by simp,by simp,by simp,by simp⟩
def iX(l:Mr):List (List (List Nat)):=if (l.any λo=>o.1.headD 0==1)=ZY then l.map λo=>o.2 else []
inductive a5S:Prop|mk s p U B a i:A'=[.ref B.q,rP a,.int ((i:Nat):Int)]->i_ s p U B B'->(∀v∈a,v∈U/\nB s v)->i<s.puzzle.doings.length->a.length<=1000->(∀b,Mv B B' b->bT s U B b->D' (.lst ((iX (bE (a9 s) (ay s) a i)).map rP)) b)->a5S
def p7{s p U B a m Q}{i:Nat}(c:i_ s p U B m)(h1:∀v∈a,v∈U/\nB s v)(b:i<s.puzzle.doings.length)(d:a.length<=1000)(q:∀m',Mv B m m'->bT s U B m'->Q (Dd (bE (a9 s) (ay s) a i)) m'):a5e [.ref B.q,rP a,.int (i:Int)] m Q:=⟨s,p,U,B,a,i,rfl,c,h1,b,d,q⟩
def IB(b:List (List Nat)):(m7 b).map (λp=>kD p.1)=b.map eV:=by unfold m7;rw[bq];refine bO λv _=>?_;simp only[df,X8]
def De:dR (vB a5e) pk a5S:=by
 intro ds m Q h;obtain⟨s,p,U,B,f,i,rfl,c,y,z,hlen,q⟩:=h;dsimp[vB,pk];refine p7 c y z hlen λg h1 A=>?_;have q:=q g h1 A;have ok:=oz s i f;generalize bE (a9 s) (ay s) f i=outs at q ok ⊢;dsimp[Dd,ku,cS,f_,kS];intro a C;refine QZ outs (λo=>kD (wX o.1)) (λo=>Z_ (.bl (o.1.headD 0==1))) (by simp[df]) (λd=>∃b,d=bQ g a (.lst b)) ⟨_,rfl⟩ (λd b ⟨x,e⟩=>⟨b,by rw[e,cy]⟩) (λ_ _=>trivial) (λo w d b t hm X Y l E=>?_) λd ⟨x,e⟩ hm=>?_
 .have u:=ok.ne o w;cases j:o.1 with
  |nil=>exact absurd j u
  |cons n r=>
   rw[j]at l;dsimp[Q_,ib,gF];have e:(decide ((n:Int)=1))=(n==1):=by rw[bW];simp;lia
   rw[e];exact l _ d rfl t hm
 .subst e;have e:outs.filterMap (λo=>Z_ (D.bl (o.1.headD 0==1)))=(outs.map λo=>o.1.headD 0==1).map D.bl:=by rw[bq];exact rh λ_ _=>rfl
  have k:jd (bQ g a (.lst x)) a=g:=ia C;simp only[e,lg,k,List.any_map,w6];unfold iX at q;refine dY (λh=>?_) λh=>?_
  .have h:=PB h;rw[i0n (by rw[h];exact aB)]at q;exact .ret q
  .have h:=S_ h;rw[i0p h]at q;simp only[Pi];intro F v;refine QZ outs (λo=>D.dic (m7 o.2)) (λo=>Z_ (rP o.2)) (by simp[df]) (λd=>∃b,d=bQ g F (.lst b)) ⟨_,rfl⟩ (λd b ⟨x,e⟩=>⟨b,by rw[e,cy]⟩) (λ_ _=>trivial) (λo w d b t hm X Y l E=>?_) λd ⟨x,e⟩ hm=>?_
   .dsimp[ib,IB];exact l _ d rfl t hm
   .subst e;have G:outs.filterMap (λo=>Z_ (rP o.2))=(outs.map λo=>o.2).map rP:=by rw[bq];exact rh λ_ _=>rfl
    rw[G,ia v];exact .ret q
def iN{m a C}{b:List (Str×D)}(h:m a=Z_ (.ins C b))(c:b.length<100):B1 m (.ref a)=Z_ (a,C,b):=by simp only[B1,h,c,if_true]
structure Bo(s:ae)(p:bM):Prop where
 now:nB s p.now
 bel:∀v∈p.belief,nB s v
inductive a4t:Prop|mk s p B i f:A'=[.ref B.q,.int ((i:Nat):Int)]->mq s->eP s p B B'->s.facts[i]?=Z_ f->(∀v∈p.belief,nB s v)->D' (rP (d7 (bB f) p.belief)) B'->a4t
def oA{s p B f m Q}{i:Nat}(g:mq s)(h:eP s p B m)(hf:s.facts[i]?=Z_ f)(a:∀v∈p.belief,nB s v)(q:Q (rP (d7 (bB f) p.belief)) m):a4t [.ref B.q,.int (i:Int)] m Q:=⟨s,p,B,i,f,rfl,g,h,hf,a,q⟩
def EA{s:ae}{i:Nat}{f}(h:s.facts[i]?=Z_ f):tL (s.facts.map D6) (i:Int)=Z_ (D6 f):=d9 (by simp[h])
nonrec def IC:dR (Ba a2d) uz a4t:=by
 intro ds m Q h;obtain⟨s,p,B,i,f,rfl,g,j,r,y,q⟩:=h;have l:=g.facts f (aJ r);have k:eK m (.ref B.A.a6)=ZZ:=jf j.puz.facts;dsimp[Ba,uz,aW _ j.q,iH,aW _ j.puz.z,qm,k,fU j.puz.facts,EA r];dsimp[D6,lT,ku,cS,aW _ j.q,gX,rP,f_,kS];intro a C;refine QZ p.belief eV (λv=>if jE v f.needs=ZY then Z_ (eV v) else ZZ) rfl (λd=>∃c,d=bQ m a (.lst c)) ⟨_,rfl⟩ (λd c ⟨x,e⟩=>⟨c,by rw[e,cy]⟩) (λ_ _=>trivial) (λv n d c t hm X Y D E=>?_) λd ⟨x,e⟩ hm=>?_
 .dsimp[];refine jP (by rwa[(y v n).len]) ?_;dsimp[];refine dY (λh=>?_) λh=>?_
  .exact D _ d (i0p h) t hm
  .exact E d (i0n (by rw[show jE v f.needs=ZX from h];exact aB)) t hm
 .subst e;have F:p.belief.filterMap (λv=>if jE v f.needs=ZY then Z_ (eV v) else ZZ)=(d7 (bB f) p.belief).map eV:=by
   unfold d7 bB;simp only;generalize p.belief=b;induction b with
   |nil=>rfl
   |cons v b u=>
    rw[dD,iU];split
    .rename_i h;split at h
     .cases h
     .rename_i o;rwa[i0n o]
    .rename_i w h;split at h
     .rename_i o;cases h;rw[i0p o,aQ,u]
     .cases h
  simp only[F,ia C];exact .ret q
def O7{s:ae}{f:vX}{b:List (List Nat)}:((d7 (bB f) b).length=b.length)↔Vberaf.new_ (bB f) b=ZX:=by
 unfold d7 Vberaf.new_;constructor
 .intro h;rw[Hr];have:=DT.mp (List.filter_sublist.eq_of_length h);intro v a;simp[this v a]
 .intro h;rw[Hr]at h;rw[DT.mpr];intro v a;have:=h v a;simpa using this
inductive a4u:Prop|mk s p B i f:A'=[.ref B.q,.int ((i:Nat):Int)]->mq s->eP s p B B'->s.facts[i]?=Z_ f->Bo s p->D' (.int (cZ (bB f) p.belief p.now p.purse:Int)) B'->a4u
def EB{s p B f m Q}{i:Nat}(g:mq s)(h:eP s p B m)(hf:s.facts[i]?=Z_ f)(a:Bo s p)(q:Q (.int (cZ (bB f) p.belief p.now p.purse:Int)) m):a4u [.ref B.q,.int (i:Int)] m Q:=⟨s,p,B,i,f,rfl,g,h,hf,a,q⟩
def Sj:dR (NV a2d a4t) Ii a4u:=by
 intro ds m Q h;obtain⟨s,p,B,i,f,rfl,g,b,d,k,q⟩:=h;have j:=g.facts f (aJ d);have c:eK m (.ref B.A.a6)=ZZ:=jf b.puz.facts;dsimp[NV,Ii,aW _ b.q,iH,aW _ b.puz.z,qm,c,fU b.puz.facts,EA d];dsimp[D6,gF,lT,nr];refine jP (by rwa[k.now.len]) ?_;unfold cZ at q;dsimp[];have a:(bB f).holds p.now=f.needs.all (jD p.now):=rfl;refine dY (λh=>?_) λh=>?_
 .rw[i0p (by rw[a];exact PB h)]at q;exact .ret q
 .rw[i0n (by rw[a,S_ h];exact dH)]at q;refine oA g b d k.bel ?_;dsimp[rP,ah,aW _ b.q,gX];refine dY (λh=>?_) λh=>?_
  .have h:(d7 (bB f) p.belief).length=p.belief.length:=by simp at h;lia
   rw[i0p (O7 (s:=s) |>.mp h)]at q;exact .ret q
  .have h:¬(d7 (bB f) p.belief).length=p.belief.length:=by simp at h;lia
   rw[i0n (λe=>h (O7 (s:=s) |>.mpr e))]at q;dsimp[aW _ b.q,Iy];refine dY (λh=>?_) λh=>?_
   .rw[i0p (show p.purse<(bB f).price by show p.purse<f.price;simp at h;lia)]at q;exact .ret q
   .rw[i0n (show ¬p.purse<(bB f).price by show ¬p.purse<f.price;simp at h;lia)]at q;exact .ret q
def FQ(B:QA)(m m':M):Prop:=∀a,a≠B.b2->a≠B.b3->a≠B.q->a≠B.b1->m' a=m a
section
variable {B:QA} {p:bM}
def ID(b:List (List Nat)):iA "belief" (rP b) (f9 B p)=f9 B {p with belief:=b}:=rfl
def PM(v:List Nat):iA "actual" (eV v) (f9 B p)=f9 B {p with now:=v}:=rfl
def Sk(n:Nat):iA "purse" (.int (n:Int)) (f9 B p)=f9 B {p with purse:=n}:=rfl
def IE:(f9 B p).length<100:=by show 7<100;decide
end
def eP.ne{s p B m}(h:eP s p B m):B.q≠B.b1:=λe=>by have:=h.q;rw[e,h.past]at this;cases this
structure zL(B:QA):Prop where
 ne:∀a,a=B.A.z\/a=B.A.a1\/a=B.A.a2\/a=B.A.a3\/a=B.A.a4\/a=B.A.a5\/a=B.A.a6->a≠B.q/\a≠B.b1
def eP.a4D{s p p' B m}(b:zL B)(h:eP s p B m)(c:p'.past=p.past):eP s p' B (bQ m B.q (.ins j_ (f9 B p'))):=by
 refine⟨h.puz.mono λa o e d=>?_,aS,?_⟩
 .rwa[ao (b.ne a d).1]
 .rw[ao (aG h.ne),h.past,c]
def eP.a4X{s p B m}(b:zL B)(h:eP s p B m)(l:List (List Nat)):eP s {p with past:=l} B (bQ m B.b1 (.lst (l.map Iw))):=by
 refine⟨h.puz.mono λa o e c=>?_,?_,aS⟩
 .rwa[ao (b.ne a c).2]
 .rw[ao h.ne,h.q];rfl
def i_.a4D{s p p' U B m}(a:zL B)(h:i_ s p U B m)(b:p'.past=p.past):i_ s p' U B (bQ m B.q (.ins j_ (f9 B p'))):=by have n:=h.ca.noI h.pl.q;exact⟨h.good,h.pl.a4D a b,h.ca.congr (ao (aG n.1)) (ao (aG n.2)),h.ul⟩
def i_.a4X{s p U B m}(a:zL B)(h:i_ s p U B m)(l:List (List Nat)):i_ s {p with past:=l} U B (bQ m B.b1 (.lst (l.map Iw))):=by have n:=h.ca.noL h.pl.past;exact⟨h.good,h.pl.a4X a l,h.ca.congr (ao (aG n.1)) (ao (aG n.2)),h.ul⟩
def FQ.refl(B:QA)(m:M):FQ B m m:=λ_ _ _ _ _=>rfl
def FQ.mv{B a b c}(x:FQ B a b)(y:Mv B b c):FQ B a c:=λd h1 e f g=>(y d h1 e).trans (x d h1 e f g)
def FQ.q{B:QA}{a b o}(x:FQ B a b):FQ B a (bQ b B.q o):=λd h1 e c f=>(ao c).trans (x d h1 e c f)
def FQ.p{B:QA}{a b o}(x:FQ B a b):FQ B a (bQ b B.b1 o):=λd h1 e f c=>(ao c).trans (x d h1 e f c)
def IF(p:bM)(f:vX)(i:Nat):bM:={p with belief:=d7 (bB f) p.belief,purse:=p.purse-f.price,past:=p.past++[[1,i]]}
inductive a5P:Prop|mk s p U B i f:A'=[.ref B.q,.int ((i:Nat):Int)]->i_ s p U B B'->zL B->s.facts[i]?=Z_ f->(∀v∈p.belief,nB s v)->f.price<=p.purse->p.past.length<=1000->(∀a,i_ s (IF p f i) U B a->FQ B B' a->D' .non a)->a5P
def Mt:dR (FH a4t) zf a5P:=by
 intro ds m Q h;obtain⟨s,p,U,B,i,f,rfl,c,k,n,t,hpr,hpl,q⟩:=h;dsimp[FH,zf];refine oA c.good c.pl n t ?_;dsimp[iN c.pl.q IE,ID];generalize u:d7 (bB f) p.belief=b;have a:=c.a4D (p':={p with belief:=b}) k rfl;generalize l:bQ m B.q (.ins j_ (f9 B {p with belief:=b}))=o at a;have d:eK o (.ref B.A.a6)=ZZ:=jf a.pl.puz.facts;dsimp[aW _ a.pl.q,Iy,iH,aW _ a.pl.puz.z,qm,d,fU a.pl.puz.facts,EA n,iN a.pl.q IE];dsimp[D6,gF];have e:(p.purse:Int)-(f.price:Int)=((p.purse-f.price:Nat):Int):=by lia
 rw[e,Sk];have j:=a.a4D (p':={p with belief:=b,purse:=p.purse-f.price}) k rfl;generalize g:bQ o B.q (.ins j_ (f9 B {p with belief:=b,purse:=p.purse-f.price}))=m2 at j;have v:(p.past.map Iw).length<1000000:=by rw[ah];lia
 simp only[iN a.pl.q IE,g,aW _ j.pl.q,Ac,j.pl.past,v,if_true];have r:=j.a4X k (p.past++[[1,i]]);have w:(p.past++[[1,i]]).map Iw=p.past.map Iw++[.tup [.int 1,.int (i:Int)]]:=by simp[Iw,dN,eN]
 rw[w]at r;refine q _ ?_ ?_
 .unfold IF;rwa[u]
 .rw[<-g,<-l];exact (((FQ.refl B m).q).q).p
def Df(s:ae)(p:bM)(i:Nat):bM:=
 let n:=bH (a9 s) (ay s) i p.now
 {p with now:=(bN (a9 s) i p.now).2,belief:=gZ (a9 s) (ay s) p.belief i n,past:=p.past++[0::i::n]}
inductive a5I:Prop|mk s p U B i:A'=[.ref B.q,.int ((i:Nat):Int)]->i_ s p U B B'->zL B->i<s.puzzle.doings.length->Bo s p->p.now∈p.belief->(∀v∈p.belief,v∈U)->p.belief.length<=1000->p.past.length<=1000->(∀a,i_ s (Df s p i) U B a->FQ B B' a->D' (.int (if (bN (a9 s) i p.now).1=ZY then 1 else 0)) a)->a5I
def O8{s}{i:Nat}{b}{l:Mr}{n}(ok:Ez s i b l)(d:n≠[])(h:∃o∈l,o.1=n):eF (l.map λo=>(wX o.1,D.dic (m7 o.2))) (wX n)=Z_ (.dic (m7 ((l.find? λx=>x.1==n).elim [] λx=>x.2))):=by
 obtain⟨o,c,e⟩:=h;have ne:=ok.ne;clear ok;induction l with
 |nil=>cases c
 |cons y l f=>
  rw[aQ,mP];by_cases a:y.1=n
  .rw[i0p (by rw[a]),eI (by simp[a])];rfl
  .rw[i0n (λz=>a (Iz (ne y (by simp)) d z)),d6 (by simp[a])];rcases aL.mp c with h|h
   .exact absurd (by rwa[<-h]) a
   .exact f h λz g=>ne z (by simp[g])
def Dg(s:ae)(v:List Nat):(ay s v).length<=2*s.puzzle.sizes.length:=Iu s v s.puzzle.sizes.length
def Mu:dR (FG a2b a5e) zd a5I:=by
 intro ds m Q h;obtain⟨s,p,U,B,i,rfl,c,l,E,f,a,F,r,hpl,q⟩:=h;obtain⟨d,G⟩:∃d,s.puzzle.doings[i]?=Z_ d:=⟨_,aj E⟩
 have e:tL (ip s p.now) (i:Int)=Z_ (t4 s p.now d):=d9 (by simp[ip,G]);rw[L9 G]at e;dsimp[FG,zd,aW _ c.pl.q,nr];refine ow c (F _ a) f.now λm1 h1 P=>?_;have u:=c.mv h1 P;dsimp[e,gF,lT,aW _ u.pl.q,gX];refine p7 u (λv H=>⟨F v H,f.bel v H⟩) E r λR I S=>?_;have J:=u.mv I S;have ok:=oz s i p.belief;obtain⟨o,T,V,_⟩:=ok.all p.now a;have g:=O8 ok BU ⟨o,T,V⟩;dsimp[Dd,Bn,g,IB,iN J.pl.q IE,e,gF,lT];generalize K:bH (a9 s) (ay s) i p.now=n at g;have W:((bE (a9 s) (ay s) p.belief i).find? λx=>x.1==n).elim [] (λx=>x.2)=gZ (a9 s) (ay s) p.belief i n:=rfl;rw[W];generalize j:gZ (a9 s) (ay s) p.belief i n=b;have w:=J.a4D (p':={p with belief:=b}) l rfl;have X:(D.tup (b.map eV))=rP b:=rfl;rw[X,ID];generalize y:bQ R B.q (.ins j_ (f9 B {p with belief:=b}))=Y at w;generalize L:(bN (a9 s) i p.now).2=t;generalize M:(if (bN (a9 s) i p.now).1=ZY then (1:Int) else 0)=N;simp only[iN w.pl.q IE,PM];have k:=w.a4D (p':={p with belief:=b,now:=t}) l rfl;generalize z:bQ Y B.q (.ins j_ (f9 B {p with belief:=b,now:=t}))=m4 at k;have Z:(p.past.map Iw).length<1000000:=by rw[ah];lia
 have hvl:=Dg s t;have hg:=c.good.vars;have A:3+(dN (ay s t)).length<=10000:=by rw[fF];lia
 dsimp[aW _ k.pl.q,Ac,k.pl.past,Iw,A];rw[i0p Z];have O:=k.a4X l (p.past++[0::i::n]);have en:n=(if (bN (a9 s) i p.now).1=ZY then 1 else 0)::ay s t:=by rw[<-K,<-L];rfl
 have C:D.int N=eN (if (bN (a9 s) i p.now).1=ZY then 1 else 0):=by rw[<-M];cases (bN (a9 s) i p.now).1<;>rfl
 have e2:(p.past++[0::i::n]).map Iw=p.past.map Iw++[.tup (.int 0::.int (i:Int)::.int N::dN (ay s t))]:=by rw[bU,en,C];rfl
 rw[e2]at O;rw[M]at q;refine .ret (q _ ?_ ?_)
 .unfold Df;simp only;rwa[K,j,L]
 .rw[<-z,<-y];exact (((((FQ.refl B m).mv h1).mv I).q).q).p
def R4:∀(a b:List Int),LY a b=ZX->LY b a=ZX->a=b
 |[],[],_,_=>rfl
 |[],y::b,h,_=>by simp[LY]at h
 |x::a,[],_,h=>by simp[LY]at h
 |x::a,y::b,h1,c=>by
  simp only[LY]at h1 c;by_cases e:x=y
  .subst e;have:=R4 a b (by simpa using h1) (by simpa using c);rw[this]
  .exfalso;simp[e,aG e]at h1 c;lia
def IG:∀{a b:List (List Int)},a.Perm b->a.Pairwise (λx y=>LY y x=ZX)->b.Pairwise (λx y=>LY y x=ZX)->a=b
 |[],b,c,_,_=>(List.nil_perm.mp c).symm
 |x::a,[],c,_,_=>absurd (List.perm_nil.mp c) (by simp)
 |x::a,y::b,c,h1,d=>by
  have e:x=y:=by
   by_cases e:x=y
   .exact e
   .have f:x∈b:=by
     have:=c.subset (bG);rcases aL.mp this with h|h
     .exact absurd h e
     .exact h
    have g:y∈a:=by
     have:=c.symm.subset (bG);rcases aL.mp this with h|h
     .exact absurd h.symm e
     .exact h
    exact R4 x y ((fh.mp d).1 x f) ((fh.mp h1).1 y g)
  subst e;rw[IG (List.Perm.cons_inv c) (fh.mp h1).2 (fh.mp d).2]
def EC(κ:List (List Int))(b:List (List Nat)):Prop:=κ.Perm (b.map zI)/\κ.Pairwise (λx y=>LY y x=ZX)
def UJ{κ κ'}{b a:List (List Nat)}(h:EC κ b)(h':EC κ' a):κ=κ'↔b.Perm a:=by
 constructor
 .intro e;subst e;have c:(b.map zI).Perm (a.map zI):=h.1.symm.trans h'.1;have:((b.map zI).map λl=>l.map kE).Perm ((a.map zI).map λl=>l.map kE):=c.map _;rw[bq,bq]at this;have d:((λl:List Int=>l.map kE)∘zI)=id:=by funext v;exact sZ v
  rw[d,Cn,Cn]at this;exact this
 .intro c;exact IG ((h.1.trans (c.map zI)).trans h'.1.symm) h.2 h'.2
def La{s}{a b:List (List Nat)}(d:a.Nodup)(i:b.Nodup):p9 (a9 s) a b=ZY↔a.Perm b:=by
 unfold p9;rw[a_,cb];constructor
 .rintro⟨h1,l⟩;have h1:a.length=b.length:=by simpa using h1
  have f:∀x∈a,x∈b:=λx c=>by have:=l x c;rw[IA,cx]at this;obtain⟨y,g,e⟩:=this;rwa[<-show y=x from by simpa using e]
  have:∀(a b:List (List Nat)),a.Nodup->b.Nodup->a.length=b.length->(∀x∈a,x∈b)->a.Perm b:=by
   intro a;induction a with
   |nil=>intro b _ _ j _;rw[kR j.symm]
   |cons x a m=>
    intro b d i j f;have c:x∈b:=f x (by simp);have h:=List.perm_cons_erase c;refine (List.Perm.cons x (m (b.erase x) (bX.mp d).2 (i.erase x) ?_ λy g=>?_)).trans h.symm
    .rw[ya c];simp at j;lia
    .have k:y≠x:=by intro e;subst e;exact (bX.mp d).1 g
     exact (Co k).mpr (f y (by simp[g]))
  exact this a b d i h1 f
 .intro h;refine⟨by simp[h.length_eq],λx c=>?_⟩;rw[IA,cx];exact⟨x,h.subset c,by simp⟩
def kB(κ:List (List Int)):K2:=κ.map λl=>(l4 l:K1)
def YH{a b}(h:kB a=kB b):a=b:=G6 (λx y e=>by injection e) |>.mp h
def IH(κ:List (List Int)):oZ (.tup (κ.map Ea))=Z_ (kB κ):=by
 have:(.tup (κ.map Ea):D)=kD (kB κ):=by unfold kD kB;rw[bq];rfl
 rw[this];exact HQ _
structure CA where
 ch:ak
 c1:ak
 c2:ak
 c3:ak
def pW(C:CA)(room:Nat)(over:Bool):List (Str×D):=[("room",.int (room:Int)),("over",.bl over),("beliefs",.ref C.c1),("ways",.ref C.c2),("numbers",.ref C.c3)]
section
variable {C:CA} {room:Nat} {over:Bool}
def Wn:(pW C room over).lookup ("room":Str)=Z_ (.int (room:Int)):=rfl
def t6:(pW C room over).lookup ("beliefs":Str)=Z_ (.ref C.c1):=rfl
def Wo:(pW C room over).lookup ("ways":Str)=Z_ (.ref C.c2):=rfl
def x9:(pW C room over).lookup ("numbers":Str)=Z_ (.ref C.c3):=rfl
def YI:(pW C room over).length<100:=by show 5<100;decide
def UK(b:Bool):iA "over" (.bl b) (pW C room over)=pW C room b:=rfl
end
def ED(w:Nat×List Nat):D:=.tup [.int (w.1:Int),.lst (dN w.2)]
def qr(l:List (Nat×List Nat)):D:=.lst (l.map ED)
abbrev Sg:=G7 rl
def vK(κs:List (List (List Int))):List (K2×D):=κs.zipIdx.map λx=>(kB x.1,.int (x.2:Int))
structure iq(room:Nat)(C:CA)(g:Sg)(m:M):Prop where
 ch:m C.ch=Z_ (.ins cK (pW C room g.over))
 nodes:m C.c1=Z_ (.lst (g.nodes.map rP))
 a2h:m C.c2=Z_ (.lst (g.next.map qr))
 nums:∃κs:List (List (List Int)),m C.c3=Z_ (.dic (vK κs))/\cE EC κs g.nodes
 ne:C.c1≠C.c2
 nd:∀b∈g.nodes,b.Nodup
def Sl{s:ae}{κs:List (List (List Int))}{c:List (List (List Nat))}{κ}{b:List (List Nat)}(h:cE EC κs c)(l:EC κ b)(d:b.Nodup)(g:∀x∈c,x.Nodup)(k:Nat):
  eF ((κs.zipIdx k).map λx=>(kB x.1,D.int (x.2:Int))) (kB κ)=if c.findIdx (λn=>p9 (a9 s) n b)<c.length then Z_ (.int ((k+c.findIdx λn=>p9 (a9 s) n b:Nat):Int)) else ZZ:=by
 induction h generalizing k with
 |nil=>rfl
 |@cons κ0 f κs c m t o=>
  rw[g9,aQ,mP,List.findIdx_cons];have i:=UJ m l;have j:=La (s:=s) (g f (by simp)) d;by_cases e:κ0=κ
  .have a:=j.mpr (i.mp e);rw[i0p (by rw[e]),a];simp
  .have a:p9 (a9 s) f b=ZX:=by
    cases p:p9 (a9 s) f b with
    |false=>rfl
    |true=>exact absurd (i.mpr (j.mp p)) e
   rw[i0n (λz=>e (YH z)),a,o (λx q=>g x (by simp[q])) (k+1)];simp only[cond_false,aZ,Nat.add_lt_add_iff_right];split
   .congr 3;lia
   .rfl
def fX:Option Nat->D
 |none=>.non
 |some n=>.int (n:Int)
def a0c(C:CA)(m m':M):Prop:=∀a,a≠C.ch->a≠C.c1->a≠C.c3->m' a=m a
def a0c.refl(C:CA)(m:M):a0c C m m:=λ_ _ _ _=>rfl
def YJ(s:ae)(b:List (List Nat)):Prop:=b.Nodup/\(∀v∈b,v.length=s.puzzle.sizes.length)/\b.length<=1000
inductive a5j:Prop|mk s room C g b:A'=[.ref C.ch,rP b]->iq room C g B'->YJ s b->g.nodes.length<=1000->(∀a,iq room C (cP (a9 s) room g b).1 a->a0c C B' a->D' (fX (cP (a9 s) room g b).2) a)->a5j
def UL(b:List (List Nat)):b.map eV=(b.map zI).map Ea:=by rw[bq];refine bO λv _=>?_;simp only[df,Ea,eV,FO];rfl
def pb{α β:Type}{R}{l:List α}{r:List β}(h:cE R l r):l.length=r.length:=by
 induction h with
 |nil=>rfl
 |cons _ _ a=>simp[a]
def EF:dR xM qN a5j:=by
 intro ds m Q h;obtain⟨s,room,C,g,b,rfl,c,k,hgl,q⟩:=h;obtain⟨κs,f,l⟩:=c.nums;have o:C.c1≠C.ch:=λe=>by have:=c.nodes;rw[e,c.ch]at this;cases this
 have E:C.c2≠C.ch:=λe=>by have:=c.a2h;rw[e,c.ch]at this;cases this
 have p:C.c3≠C.ch:=λe=>by rw[e,c.ch]at f;cases f
 have t:C.c1≠C.c3:=λe=>by have:=c.nodes;rw[e,f]at this;cases this
 have F:C.c2≠C.c3:=λe=>by have:=c.a2h;rw[e,f]at this;cases this
 dsimp[xM,qN,rP];refine⟨b.map zI,UL b,?_,fun κ h1 G=>?_⟩
 .by_cases K:s.puzzle.sizes.length=0
  .right
   rw[ah];have:∀v∈b,v=[]:=λv H=>kR (by rw[k.2.1 v H,K])
   match b,k.1,this with
   |[],_,_=>simp
   |[x],_,_=>simp
   |x::y::r,u,L=>exfalso;rw[bX]at u;exact u.1 (by rw[L x (by simp),L y (by simp)];simp)
  .left
   intro ns I e;obtain⟨v,H,rfl⟩:=aF.mp I;have:=k.2.1 v H;have A:=congrArg xq e;simp[zI]at A;rw[A]at this;exact K this.symm
 .have M:EC κ b:=⟨h1,G⟩
  have j:=Sl (s:=s) l M k.1 c.nd 0;simp only[n9]at j;have j:eF (vK κs) (kB κ)=_:=j;dsimp[IH,aW _ c.ch,x9,iM f,j];unfold cP tD at q;simp only at q;by_cases B:g.nodes.findIdx (λn=>p9 (a9 s) n b)<g.nodes.length
  .simp only[i0p B]at q ⊢;dsimp[IH,aW _ c.ch,x9,iM f,j,i0p B];exact .ret (q m c (a0c.refl C m))
  .simp only[i0n B]at q ⊢;dsimp[aW _ c.ch,t6,Wn,f7 c.nodes,ah];refine dY (λh=>?_) λh=>?_
   .have h:¬g.nodes.length<room:=by simp at h;lia
    simp only[i0n h]at q;dsimp[iN c.ch YI,UK];refine .ret (q _ ⟨aS,?_,?_,⟨κs,?_,l⟩,c.ne,c.nd⟩ λa h1 _ _=>ao h1)
    .rw[ao o];exact c.nodes
    .rw[ao E];exact c.a2h
    .rwa[ao p]
   .have h:g.nodes.length<room:=by simp at h;lia
    simp only[i0p h]at q;have hlen:(vK κs).length<16000000:=by unfold vK;rw[ah,List.length_zipIdx,pb l];lia
    have w:eF (vK κs) (kB κ)=ZZ:=by rw[j,i0n B]
    dsimp[aW _ c.ch,t6,x9,f7 c.nodes,IH,f,hlen,ou w,ah];have i:vK κs++[(kB κ,.int (g.nodes.length:Int))]=vK (κs++[κ]):=by unfold vK;rw[List.zipIdx_append,bU,pb l];simp
    have z:eF (vK (κs++[κ])) (kB κ)=Z_ (.int (g.nodes.length:Int)):=by rw[<-i];exact BR w
    rw[i];have N:(bQ m C.c3 (.dic (vK (κs++[κ])))) C.ch=Z_ (.ins cK (pW C room g.over)):=by rw[ao (aG p)];exact c.ch
    have A:(bQ m C.c3 (.dic (vK (κs++[κ])))) C.c1=Z_ (.lst (g.nodes.map rP)):=by rw[ao t];exact c.nodes
    have J:(g.nodes.map rP).length<1000000:=by rw[ah];lia
    simp only[aW _ N,t6,A,J,if_true];generalize d:bQ (bQ m C.c3 (.dic (vK (κs++[κ])))) C.c1 (.lst (g.nodes.map rP++[D.tup (b.map eV)]))=O;have P:O C.ch=Z_ (.ins cK (pW C room g.over)):=by rwa[<-d,ao (aG o)]
    have R:O C.c3=Z_ (.dic (vK (κs++[κ]))):=by rw[<-d,ao (aG t),aS]
    simp only[aW _ P,x9,iM R,z];refine .ret (q _ ⟨P,?_,?_,⟨κs++[κ],R,BV l (.cons M .nil)⟩,c.ne,λx S=>?_⟩ λa h1 G T=>?_)
    .rw[<-d,aS,bU];rfl
    .rw[<-d,ao (aG c.ne),ao F];exact c.a2h
    .rcases aX.mp S with h|h
     .exact c.nd x h
     .rw[bb]at h;rw[h];exact k.1
    .rw[<-d,ao G,ao T]
def uY(S:ak->Prop)(m m':M):Prop:=∀a,¬S a->m' a=m a
def uY.refl(S:ak->Prop)(m:M):uY S m m:=λ_ _=>rfl
structure a0B(B:QA)(C:CA):Prop where
 ne:∀a,a=C.ch\/a=C.c1\/a=C.c2\/a=C.c3->(a≠B.b2/\a≠B.b3)/\(a≠B.q/\a≠B.b1)/\a≠B.A.z/\a≠B.A.a1/\a≠B.A.a2/\a≠B.A.a3/\a≠B.A.a4/\a≠B.A.a5/\a≠B.A.a6
def i_.mvC{s p U B C m m'}(h:i_ s p U B m)(sp:a0B B C)(k:a0c C m m'):i_ s p U B m':=by
 have b:∀a,(a=B.b2\/a=B.b3)\/(a=B.q\/a=B.b1)\/a=B.A.z\/a=B.A.a1\/a=B.A.a2\/a=B.A.a3\/a=B.A.a4\/a=B.A.a5\/a=B.A.a6->m' a=m a:=by
  intro a c;refine k a ?_ ?_ ?_
  .intro e;have:=sp.ne a (.inl e);rcases c with (h|h)|(h|h)|h|h|h|h|h|h|h<;>simp_all
  .intro e;have:=sp.ne a (.inr (.inl e));rcases c with (h|h)|(h|h)|h|h|h|h|h|h|h<;>simp_all
  .intro e;have:=sp.ne a (.inr (.inr (.inr e)));rcases c with (h|h)|(h|h)|h|h|h|h|h|h|h<;>simp_all
 refine⟨h.good,⟨h.pl.puz.mono λa o e d=>?_,?_,?_⟩,h.ca.congr (b _ (by simp)) (b _ (by simp)),h.ul⟩
 .rwa[b a (.inr (.inr d))]
 .rw[b _ (by simp)];exact h.pl.q
 .rw[b _ (by simp)];exact h.pl.past
def iq.keep{room C g m m'}(h:iq room C g m)(k:∀a,a=C.ch\/a=C.c1\/a=C.c2\/a=C.c3->m' a=m a):iq room C g m':=by obtain⟨κs,h1,b⟩:=h.nums;exact⟨by rw[k _ (by simp)];exact h.ch,by rw[k _ (by simp)];exact h.nodes,by rw[k _ (by simp)];exact h.a2h,⟨κs,by rw[k _ (by simp)];exact h1,b⟩,h.ne,h.nd⟩
def iq.mv{room B C g m m'}(h:iq room C g m)(sp:a0B B C)(k:Mv B m m'):iq room C g m':=h.keep λa b=>k a (sp.ne a b).1.1 (sp.ne a b).1.2
def X9(B:QA)(a:ak):Prop:=a=B.q\/a=B.b1\/a=B.A.z\/a=B.A.a1\/a=B.A.a2\/a=B.A.a3\/a=B.A.a4\/a=B.A.a5\/a=B.A.a6
def i_.pad{s p U B m a}(c:i_ s p U B m)(h:X9 B a):(∃o,m a=Z_ o)/\a≠B.b2/\a≠B.b3:=by
 rcases h with h|h|h|h|h|h|h|h|h<;>subst h
 .exact⟨⟨_,c.pl.q⟩,c.ca.noI c.pl.q⟩
 .exact⟨⟨_,c.pl.past⟩,c.ca.noL c.pl.past⟩
 .exact⟨⟨_,c.pl.puz.z⟩,c.ca.noI c.pl.puz.z⟩
 .exact⟨⟨_,c.pl.puz.sizes⟩,c.ca.noL c.pl.puz.sizes⟩
 .exact⟨⟨_,c.pl.puz.begins⟩,c.ca.noL c.pl.puz.begins⟩
 .exact⟨⟨_,c.pl.puz.spans⟩,c.ca.noL c.pl.puz.spans⟩
 .exact⟨⟨_,c.pl.puz.doings⟩,c.ca.noL c.pl.puz.doings⟩
 .exact⟨⟨_,c.pl.puz.views⟩,c.ca.noL c.pl.puz.views⟩
 .exact⟨⟨_,c.pl.puz.facts⟩,c.ca.noL c.pl.puz.facts⟩
def i_.of{s p U B m m'}(c:i_ s p U B m)(k:∀a,X9 B a->m' a=m a)(b:bT s U B m'):i_ s p U B m':=by
 refine⟨c.good,⟨c.pl.puz.mono λa o e d=>?_,?_,?_⟩,b,c.ul⟩
 .rwa[k a (.inr (.inr d))]
 .rw[k _ (.inl rfl)];exact c.pl.q
 .rw[k _ (.inr (.inl rfl))];exact c.pl.past
def i_.a3N{s p U B m a w}(c:i_ s p U B m)(hw:m w=ZZ)(h:X9 B a):a≠w:=by rintro rfl;obtain⟨o,e⟩:=(c.pad h).1;rw[hw]at e;cases e
def i_.del{s p U B m w}(c:i_ s p U B m)(h:∀a,X9 B a->a≠w)(b:w≠B.b2)(d:w≠B.b3):i_ s p U B (jd m w):=c.of (λa e=>gh (h a e)) (c.ca.congr (gh (aG b)) (gh (aG d)))
def i_.upd{s p U B m w o}(c:i_ s p U B m)(h:∀a,X9 B a->a≠w)(b:w≠B.b2)(d:w≠B.b3):i_ s p U B (bQ m w o):=c.of (λa e=>ao (h a e)) (c.ca.congr (ao (aG b)) (ao (aG d)))
def Wp(C:CA)(a:ak):Prop:=a=C.ch\/a=C.c1\/a=C.c2\/a=C.c3
def iq.free{room C g m a w}(h:iq room C g m)(hw:m w=ZZ)(b:Wp C a):a≠w:=by
 rintro rfl;obtain⟨κs,c,_⟩:=h.nums;rcases b with e|e|e|e
 .rw[e,h.ch]at hw;cases hw
 .rw[e,h.nodes]at hw;cases hw
 .rw[e,h.a2h]at hw;cases hw
 .rw[e,c]at hw;cases hw
def kO(s:ae)(room:Nat):Sg->List (List (List Nat))->Sg×List (Option Nat)
 |g,[]=>(g,[])
 |g,b::r=>let x:=cP (a9 s) room g b
  let y:=kO s room x.1 r
  (y.1,x.2::y.2)
def gY:List (Option Nat)->Option (List Nat)
 |[]=>Z_ []
 |o::r=>match o,gY r with
  |some i,Z_ l=>Z_ (i::l)
  |_,_=>ZZ
def FR(s:ae)(room:Nat):∀(a:List (List (List Nat))) (g:Sg),Vberaf.putAll (a9 s) room g a=((kO s room g a).1,gY (kO s room g a).2)
 |[],g=>rfl
 |b::r,g=>by simp only[Vberaf.putAll,kO,FR s room r,gY];rfl
def Lb(s:ae)(room:Nat):∀(a:List (List (List Nat))) (g:Sg) (b:List (List Nat)),kO s room g (a++[b])=((cP (a9 s) room (kO s room g a).1 b).1,(kO s room g a).2++[(cP (a9 s) room (kO s room g a).1 b).2])
 |[],g,b=>rfl
 |c::r,g,b=>by simp only[List.cons_append,kO,Lb s room r]
def Dh(s:ae)(room:Nat):∀(a:List (List (List Nat))) (g:Sg),(kO s room g a).2.length=a.length
 |[],g=>rfl
 |b::r,g=>by simp[kO,Dh s room r]
nonrec def Sm{s}{room:Nat}{g:Sg}{b}(h:g.nodes.length<=room):(cP (a9 s) room g b).1.nodes.length<=room:=by
 unfold cP;split
 .exact h
 .split
  .rename_i h2;simp;lia
  .exact h
def BW{s}{room:Nat}:∀(a:List (List (List Nat))) {g:Sg},g.nodes.length<=room->(kO s room g a).1.nodes.length<=room
 |[],g,h=>h
 |b::r,g,h=>BW r (Sm h)
def Lc{s:ae}{i:Nat}{v}(g:mq s)(a:nB s v)(c:i<s.puzzle.doings.length):nB s (bN (a9 s) i v).2:=by
 obtain⟨d,b⟩:∃d,s.puzzle.doings[i]?=Z_ d:=⟨_,aj c⟩
 rw[Dc b];cases h:cj s.puzzle d v with
 |none=>exact a
 |some w=>exact D9 a (g.doings d (aJ b)) h
def Ld{s:ae}{i:Nat}{b:List (List Nat)}(g:mq s)(e:∀v∈b,nB s v)(f:b.length<=1000)(j:i<s.puzzle.doings.length):∀x∈iX (bE (a9 s) (ay s) b i),YJ s x/\(∀v∈x,nB s v)/\x.length<=b.length/\x≠[]:=by
 have ok:=oz s i b;intro x c;unfold iX at c;split at c
 .obtain⟨o,a,rfl⟩:=aF.mp c;have d:∀v∈o.2,nB s v:=λv d=>by
   obtain⟨w,hw,rfl⟩:=ok.from_ o a v d;exact Lc g (e w hw) j
  exact⟨⟨ok.nd o a,λv h=>(d v h).len,c6 (ok.len o a) f⟩,d,ok.len o a,ok.pos o a⟩
 .cases c
def FS(s:ae)(room:Nat)(b:List (List Nat))(x:Sg×List (Nat×List Nat))(i:Nat):Sg×List (Nat×List Nat):=
 let l:=iX (bE (a9 s) (ay s) b i)
 let y:=kO s room x.1 l
 (y.1,match gY y.2 with
  |some r=>if l.isEmpty=ZY then x.2 else x.2++[(i,r)]
  |none=>x.2)
def dB(s:ae)(room:Nat)(b:List (List Nat))(g:Sg)(n:Nat):Sg×List (Nat×List Nat):=(bL n).foldl (FS s room b) (g,[])
def iC(s:ae)(room:Nat)(b:List (List Nat))(g:Sg)(n:Nat):dB s room b g (n+1)=FS s room b (dB s room b g n) n:=by unfold dB;rw[AX,gD];rfl
def rG{s}{room:Nat}{b}{g:Sg}(h:g.nodes.length<=room)(n:Nat):(dB s room b g n).1.nodes.length<=room/\(dB s room b g n).2.length<=n:=by
 induction n with
 |zero=>exact⟨h,aN _⟩
 |succ n a=>
  rw[iC];unfold FS;refine⟨BW _ a.1,?_⟩;simp only;split
  .split
   .lia
   .simp;lia
  .lia
def a0C(B:QA)(C:CA)(a:ak):Prop:=a=B.b2\/a=B.b3\/a=C.ch\/a=C.c1\/a=C.c3
inductive a6j:Prop|mk s p U B C room g b:A'=[.ref B.q,.ref C.ch,rP b]->i_ s p U B B'->iq room C g B'->a0B B C->(∀v∈b,v∈U/\nB s v)->b.length<=1000->g.nodes.length<=room->room<=1000->(∀a,i_ s p U B a->iq room C (dB s room b g s.puzzle.doings.length).1 a->uY (a0C B C) B' a->D' (qr (dB s room b g s.puzzle.doings.length).2) a)->a6j
def Wq{l:List (Option Nat)}:((l.map fX).any λz=>Pp z .non)=(gY l).isNone:=by
 induction l with
 |nil=>rfl
 |cons o l a=>
  rw[aQ,fm,a];cases o with
  |none=>rfl
  |some n=>simp only[fX,Pp,Fg,gY];cases gY l<;>rfl
def O9{l:List (Option Nat)}{r}(h:gY l=Z_ r):l.map fX=dN r:=by
 induction l generalizing r with
 |nil=>cases h;rfl
 |cons o l b=>
  simp only[gY]at h;cases o with
  |none=>cases h
  |some n=>
   cases a:gY l with
   |none=>rw[a]at h;cases h
   |some t=>rw[a]at h;cases h;rw[aQ,b a];rfl
def Lf(l:List (Option Nat)):((l.map fX).all λd=>(lS d).isSome)=ZY:=by rw[cb];intro d a;obtain⟨o,_,rfl⟩:=aF.mp a;cases o<;>rfl
nonrec def Mw:dR (FI a5S a5j) zh a6j:=by
 intro ds m Q h;obtain⟨s,p,U,B,C,room,g,b,rfl,c,V,Z,hb,hbl,hgr,hr,q⟩:=h;dsimp[FI,zh,dQ,Pb,aW _ c.pl.q];intro w hw;have cw:=c.new (o:=.lst []) hw;have hcw:∀{j:M} {o:MO},iq room C g j->j w=ZZ->iq room C g (bQ j w o):=λ{j o} h I=>h.keep λa A=>ao (by
  intro e;subst e;obtain⟨κs,k1,_⟩:=h.nums;rcases A with e|e|e|e
  .rw[e,h.ch]at I;cases I
  .rw[e,h.nodes]at I;cases I
  .rw[e,h.a2h]at I;cases I
  .rw[e,k1]at I;cases I)
 have hdl:=c.good.a1T;have hrg:(0:Int)<=((s.puzzle.doings.map uQ).length:Int)/\((s.puzzle.doings.map uQ).length:Int)<=100000:=by rw[ah];lia
 dsimp[aW _ cw.pl.q,iH,aW _ cw.pl.puz.z,vI,f7 cw.pl.puz.doings,hrg,and_self];refine⟨λi σ j=>∃x5 x6 x7,σ=[Z_ (.ref B.q),Z_ (.ref C.ch),Z_ (rP b),Z_ (.ref w),x5,x6,x7]/\i_ s p U B j/\iq room C (dB s room b g i).1 j/\j w=Z_ (.lst ((dB s room b g i).2.map ED))/\uY (λa=>a0C B C a\/a=w) m j,?_,λ_ _ _ _ _=>trivial,?_,?_⟩
 .exact⟨ZZ,ZZ,ZZ,rfl,cw,hcw V hw,aS,λa A=>ao λe=>A (.inr e)⟩
 .rintro i d σ j hd ⟨x5,x6,x7,rfl,J,D,l,K⟩;have hi:=(ax.mp hd).1;have hi:i<s.puzzle.doings.length:=by simpa[eh] using hi
  rw[rq (by simpa[eh] using hi)]at hd;cases az hd;have ei:(0:Int)+(i:Int)*1=(i:Int):=by lia
  rw[ei];dsimp[ku,cS,kS];refine⟨s,p,U,B,b,i,rfl,J,hb,hi,hbl,λm2 h1 h2=>?_⟩;dsimp[ku,cS];have c2:=J.mv h1 h2;have hc2:=D.mv Z h1;have E:=J.ca.noL l;have hw2:m2 w=Z_ (.lst ((dB s room b g i).2.map ED)):=by rwa[h1 w E.1 E.2]
  have hbo:=Ld c.good (λv hv=>(hb v hv).2) hbl hi;obtain⟨hnl,hwl⟩:=rG (s:=s) (b:=b) hgr i;rw[iC];unfold FS;generalize iX (bE (a9 s) (ay s) b i)=L at hbo ⊢;generalize dB s room b g i=W at *;simp only[f_];intro a A;have pw:∀x,X9 B x->x≠w:=λx f=>c.a3N hw f;have F:∀x,Wp C x->x≠w:=λx f=>V.free hw f;have pa:∀x,X9 B x->x≠a:=λx f=>c2.a3N A f;have n:∀x,Wp C x->x≠a:=λx f=>hc2.free A f;have X:=c2.ca.noN A;have N:w≠a:=by rintro rfl;rw[hw2]at A;cases A
  let I2:LC3:=λk t u=>t=(kO s room W.1 (L.take k)).2.map fX/\iq room C (kO s room W.1 (L.take k)).1 u/\i_ s p U B u/\u a=Z_ (.lst t)/\u w=Z_ (.lst (W.2.map ED))/\uY (λx=>a0C B C x\/x=a) m2 u
  refine⟨I2,?_,λk t u _ h=>⟨h.2.2.2.1,trivial⟩,?_,?_⟩
  .exact⟨rfl,hc2.keep λx f=>ao (n x f),c2.upd pa X.1 X.2,aS,by rwa[ao N],λx f=>ao λe=>f (.inr e)⟩
  .rintro k dd t u hdd ⟨Y,G,c3,ha3,O,P⟩;obtain⟨x,f,rfl⟩:=VG hdd;have hxo:=hbo x (aJ f);have hpn:=BW (s:=s) (L.take k) hnl;dsimp[ib];refine⟨s,room,C,_,x,rfl,G,hxo.1,by lia,λm4 h41 H=>?_⟩;dsimp[];have c4:=c3.mvC Z H;have ea:m4 a=u a:=H a (λe=>n _ (.inl rfl) e.symm) (λe=>n _ (.inr (.inl rfl)) e.symm) (λe=>n _ (.inr (.inr (.inr rfl))) e.symm);have ew:m4 w=u w:=H w (λe=>F _ (.inl rfl) e.symm) (λe=>F _ (.inr (.inl rfl)) e.symm) (λe=>F _ (.inr (.inr (.inr rfl))) e.symm);have ep:=Lb s room (L.take k) W.1 x;rw[<-eW f]at ep;refine⟨by rwa[ea],?_,?_,c4.upd pa X.1 X.2,aS,by rwa[ao N,ew],λy hy=>?_⟩
   .rw[ep,Y];simp
   .rw[ep];exact h41.keep λx f=>ao (n x f)
   .rw[ao (λe=>hy (.inr e)),H y (λe=>hy (.inl (.inr (.inr (.inl e))))) (λe=>hy (.inl (.inr (.inr (.inr (.inl e)))))) (λe=>hy (.inl (.inr (.inr (.inr (.inr e))))))];exact P y hy
  .rintro t u ⟨Y,G,c3,ha3,O,P⟩;rw[ah,cO]at Y G;have cd:=c3.del pa X.1 X.2;have R:iq room C (kO s room W.1 L).1 (jd u a):=G.keep λx f=>gh (n x f);have S:jd u a w=Z_ (.lst (W.2.map ED)):=by rwa[gh N]
   have T:uY (λx=>a0C B C x\/x=w) m (jd u a):=λx f=>by
    have h12:m2 x=j x:=h1 x (λe=>f (.inl (.inl e))) (λe=>f (.inl (.inr (.inl e))));rw[<-K x f,<-h12];unfold jd;split
    .rename_i e;subst e;exact A.symm
    .rename_i e;exact P x λz=>z.elim (λz=>f (.inl z)) e
   have hal:t.length=L.length:=by rw[Y,ah,Dh]
   rw[hal];refine dY (λh=>?_) λh=>?_
   .have hne:L.isEmpty=ZX:=by cases L with|nil=>simp at h|cons _ _=>rfl
    rw[i0p ⟨rfl,by rw[Y];exact Lf _⟩];rw[Y,Wq];cases hs:gY (kO s room W.1 L).2 with
    |none=>rw[i0n (by simp)];exact⟨_,_,_,rfl,cd,R,S,T⟩
    |some r=>
     rw[i0p (show (!(Z_ r).isNone)=ZY from rfl)];have hl:(W.2.map ED).length<1000000:=by rw[ah];lia
     simp only[S,hl,if_true,hne,bR,if_false];refine⟨_,_,_,rfl,cd.upd pw E.1 E.2,R.keep λx f=>ao (F x f),?_,λx f=>?_⟩
     .rw[O9 hs,bU];rfl
     .rw[ao λe=>f (.inr e)];exact T x f
   .have hnil:L=[]:=by cases L with|nil=>rfl|cons _ _=>simp at h
    subst hnil;exact⟨_,_,_,rfl,cd,R,S,T⟩
 .rintro σ j ⟨x5,x6,x7,rfl,J,D,l,K⟩;have el:(eh 0 1 ((s.puzzle.doings.map uQ).length:Int).toNat).length=s.puzzle.doings.length:=by simp[eh]
  rw[el]at D l;dsimp[];have E:=J.ca.noL l;have hwn:∀x,x=C.ch\/x=C.c1\/x=C.c2\/x=C.c3->x≠w:=by
   rintro x f rfl;obtain⟨κs,k1,_⟩:=V.nums;rcases f with e|e|e|e
   .rw[e,V.ch]at hw;cases hw
   .rw[e,V.nodes]at hw;cases hw
   .rw[e,V.a2h]at hw;cases hw
   .rw[e,k1]at hw;cases hw
  have cd:bT s U B (jd j w):=J.ca.congr (gh (aG E.1)) (gh (aG E.2));refine .out (m0:=jd j w) l (by unfold jd;rw[i0p rfl]) (λx o h f=>by rw[gh f]at h;exact h) (q _ ?_ (D.keep λx f=>gh (hwn x f)) λx f=>?_)
  .exact J.del (λx f=>c.a3N hw f) E.1 E.2
  .unfold jd;split
   .rename_i e;subst e;exact hw.symm
   .rename_i e;exact K x λz=>z.elim f e
def UM:∀{a b:List Nat},a.Pairwise (·<·)->b.Pairwise (·<·)->(∀x,x∈a↔x∈b)->a=b
 |[],[],_,_,_=>rfl
 |[],y::b,_,_,h=>absurd ((h y).mpr (by simp)) (by simp)
 |x::a,[],_,_,h=>absurd ((h x).mp (by simp)) (by simp)
 |x::a,y::b,d,f,h=>by
  rw[fh]at d f;have e:x=y:=by
   rcases aL.mp ((h x).mp (by simp)) with e|hx
   .exact e
   .rcases aL.mp ((h y).mpr (by simp)) with e|hy
    .exact e.symm
    .have:=d.1 y hy;have:=f.1 x hx;lia
  subst e;rw[UM d.2 f.2 λz=>?_];constructor
  .intro c;rcases aL.mp ((h z).mp (by simp[c])) with e|hz'
   .have:=d.1 z c;lia
   .exact hz'
  .intro c;rcases aL.mp ((h z).mpr (by simp[c])) with e|hz'
   .have:=f.1 z c;lia
   .exact hz'
def zM(n:Nat):∀l:List Nat,(w8 n l).Perm (n::l)
 |[]=>.refl _
 |m::r=>by
  unfold w8;split
  .exact .refl _
  .exact ((zM n r).cons m).trans (List.Perm.swap n m r)
nonrec def Lg(n:Nat):∀{l:List Nat},l.Pairwise (·<=·)->(w8 n l).Pairwise (·<=·)
 |[],_=>by simp[w8]
 |m::r,h=>by
  unfold w8;rw[fh]at h;split
  .rename_i a;refine fh.mpr ⟨λy hy=>?_,fh.mpr h⟩;rcases aL.mp hy with e|hy
   .lia
   .have:=h.1 y hy;lia
  .rename_i a;refine fh.mpr ⟨λy hy=>?_,Lg n h.2⟩;rcases aL.mp ((zM n r).subset hy) with e|hy
   .lia
   .exact h.1 y hy
def zN:∀l:List Nat,(DL l).Perm l
 |[]=>.refl _
 |x::l=>(zM x _).trans ((zN l).cons x)
def Lh:∀l:List Nat,(DL l).Pairwise (·<=·)
 |[]=>.nil
 |x::l=>Lg x (Lh l)
def Af(l:List Nat):(lV l).Nodup/\∀x,x∈lV l↔x∈l:=by
 have:∀(r c:List Nat),c.Nodup->(r.foldl (λm x=>if m.contains x=ZY then m else m++[x]) c).Nodup/\∀x,x∈r.foldl (λm x=>if m.contains x=ZY then m else m++[x]) c↔x∈c\/x∈r:=by
  intro r;induction r with
  |nil=>intro c h;exact⟨h,by simp⟩
  |cons y r i=>
   intro c h;rw[d5];by_cases g:c.contains y=ZY
   .rw[i0p g];obtain⟨h1,f⟩:=i c h;refine⟨h1,λx=>?_⟩;rw[f];have d:y∈c:=by simpa using g
    constructor
    .rintro (h|h)
     .exact .inl h
     .exact .inr (by simp[h])
    .rintro (h|h)
     .exact .inl h
     .rcases aL.mp h with e|h
      .subst e;exact .inl d
      .exact .inr h
   .rw[i0n g];have d:y∉c:=by simpa using g
    obtain⟨h1,f⟩:=i (c++[y]) (by rw[eE];exact⟨h,by simp,λa k b j=>by simp at j;subst j;intro e;subst e;exact d k⟩)
    refine⟨h1,λx=>?_⟩;rw[f];simp[or_assoc]
 obtain⟨h1,f⟩:=this l [] .nil;exact⟨h1,λx=>(f x).trans (by simp)⟩
def Oa{l}{n:Nat}(h:∀x∈l,x<n):DL (lV l)=(bL n).filter λi=>decide (i∈l):=by
 refine UM ?_ ?_ λx=>?_
 .have h1:=Lh (lV l);have f:(DL (lV l)).Nodup:=(zN _).nodup_iff.mpr (Af l).1;exact h1.imp_of_mem (λ{a b} _ _ d=>d) |>.and f |>.imp λ⟨h,e⟩=>Nat.lt_of_le_of_ne h e
 .exact List.pairwise_lt_range.filter _
 .rw[(zN _).mem_iff,(Af l).2,du,cT];simp only[decide_eq_true_eq];exact⟨λc=>⟨h x c,c⟩,λc=>c.2⟩
def II{s:ae}{v}{i:Nat}:i∈((a9 s).acts v).map (λa=>a.1)↔i<s.puzzle.doings.length/\(bN (a9 s) i v).1=ZY:=by
 constructor
 .intro h;obtain⟨a,l,rfl⟩:=aF.mp h;have g:a∈(s.puzzle.doings.zipIdx).filterMap λd=>(cj s.puzzle d.1 v).map λw=>(d.2,w):=l;obtain⟨x,m,b⟩:=dz.mp g;have c:=dJ.mp m;cases e:cj s.puzzle x.1 v with
  |none=>rw[e]at b;cases b
  |some w=>rw[e]at b;cases az b;have j:=(ax.mp c).1;refine⟨j,?_⟩;rw[Dc c,e]
 .rintro⟨n,k⟩;obtain⟨d,e⟩:∃d,s.puzzle.doings[i]?=Z_ d:=⟨_,aj n⟩
  rw[Dc e]at k;cases f:cj s.puzzle d v with
  |none=>rw[f]at k;cases k
  |some w=>
   refine aF.mpr ⟨(i,w),?_,rfl⟩;show (i,w)∈(s.puzzle.doings.zipIdx).filterMap λd=>(cj s.puzzle d.1 v).map λw=>(d.2,w)
   exact dz.mpr ⟨(d,i),dJ.mpr e,by simp[f]⟩
def Wr(s:ae)(b:List (List Nat))(i:Nat):Bool:=b.any λv=>(bN (a9 s) i v).1
def PN(s:ae)(b:List (List Nat)):Vberaf.choices (a9 s) b=(bL s.puzzle.doings.length).filter (Wr s b):=by
 unfold Vberaf.choices;rw[Oa (n:=s.puzzle.doings.length)]
 .refine List.filter_congr λi c=>?_;rw[bW];simp only[decide_eq_true_eq,gS,Wr,cx];constructor
  .rintro⟨v,a,h⟩;exact⟨v,a,(II.mp h).2⟩
  .rintro⟨v,a,h⟩;exact⟨v,a,II.mpr ⟨cT.mp c,h⟩⟩
 .intro x d;obtain⟨v,a,h⟩:=gS.mp d;exact (II.mp h).1
def PP(s:ae)(b:List (List Nat))(i:Nat):iX (bE (a9 s) (ay s) b i)=if Wr s b i=ZY then (bE (a9 s) (ay s) b i).map (λo=>o.2) else []:=by
 have ok:=oz s i b;unfold iX;have e:((bE (a9 s) (ay s) b i).any λo=>o.1.headD 0==1)=Wr s b i:=by
  rw[bW];unfold Wr;rw[cx,cx];constructor
  .rintro⟨o,a,h⟩;obtain⟨v,c,e⟩:=ok.head o a;refine⟨v,c,?_⟩;rw[e]at h;unfold bH at h;simp only[List.headD_cons]at h;cases d:(bN (a9 s) i v).1 with
   |true=>rfl
   |false=>rw[d]at h;simp at h
  .rintro⟨v,c,h⟩;obtain⟨o,a,e,_⟩:=ok.all v c;refine⟨o,a,?_⟩;rw[e];unfold bH;simp[h]
 rw[e]
def Sn(s:ae)(room:Nat)(b:List (List Nat))(x:Sg×List (Nat×List Nat))(i:Nat):FS s room b x i=if Wr s b i=ZY then Vberaf.tryOne (a9 s) (ay s) room b x i else x:=by
 unfold FS;rw[PP];by_cases h:Wr s b i=ZY
 .rw[i0p h];unfold Vberaf.tryOne;simp only[i0p h];rw[FR];have a:((bE (a9 s) (ay s) b i).map λo=>o.2).isEmpty=ZX:=by
   unfold Wr at h;rw[cx]at h;obtain⟨v,d,_⟩:=h;obtain⟨o,c,_⟩:=(oz s i b).all v d;cases e:bE (a9 s) (ay s) b i with
   |nil=>rw[e]at c;cases c
   |cons _ _=>rfl
  simp only[a,bR,if_false];rfl
 .simp only[i0n h,kO,gY,List.isEmpty_nil,if_true]
def So(s:ae)(room:Nat)(b:List (List Nat))(g:Sg):(Vberaf.choices (a9 s) b).foldl (Vberaf.tryOne (a9 s) (ay s) room b) (g,[])=dB s room b g s.puzzle.doings.length:=by
 rw[PN];unfold dB;generalize (g,([]:List (Nat×List Nat)))=x;generalize bL s.puzzle.doings.length=l;induction l generalizing x with
 |nil=>rfl
 |cons i l a=>
  rw[iU,d5,Sn];by_cases h:Wr s b i=ZY
  .rw[i0p h,i0p h,d5,a]
  .rw[i0n h,i0n h,a]
inductive a5w:Prop|mk (x:ak) (room:Nat):A'=[.ref x,.int (room:Int)]->B' x=Z_ (.ins cK [])->(∀C a,C.ch=x->iq room C {} a->B' C.c1=ZZ->B' C.c2=ZZ->B' C.c3=ZZ->uY (Wp C) B' a->D' .non a)->a5w
def fP{m x C}{a:List (Str×D)}(b:a.length<100):B1 (bQ m x (.ins C a)) (.ref x)=Z_ (x,C,a):=iN aS b
def j0{m x p o}(h:x≠p):B1 (bQ m p o) (.ref x)=B1 m (.ref x):=by simp only[B1,ao h]
def bf1{r}:iA "room" r []=([("room",r)]:List (Str×D)):=rfl
def bf2{r o}:iA "over" o [("room",r)]=([("room",r),("over",o)]:List (Str×D)):=rfl
def bf3{r o b}:iA "beliefs" b [("room",r),("over",o)]=([("room",r),("over",o),("beliefs",b)]:List (Str×D)):=rfl
def bf4{r o b w}:iA "ways" w [("room",r),("over",o),("beliefs",b)]=([("room",r),("over",o),("beliefs",b),("ways",w)]:List (Str×D)):=rfl
def bf5{r o b w n}:iA "numbers" n [("room",r),("over",o),("beliefs",b),("ways",w)]=([("room",r),("over",o),("beliefs",b),("ways",w),("numbers",n)]:List (Str×D)):=rfl
def Di:dR vC pv a5w:=by
 intro ds m Q h;obtain⟨x,room,rfl,r,q⟩:=h;dsimp[vC,pv,iN r (show ([]:List (Str×D)).length<100 by decide),fP,bf1,bf2,cy];intro f h1;have p:x≠f:=by rintro rfl;rw[aS]at h1;cases h1
 dsimp[j0 p,fP,bf3];intro g c;have n:x≠g:=by rintro rfl;rw[aS]at c;cases c
 rw[ao (aG n)]at c;have d:g≠f:=by rintro rfl;rw[aS]at c;cases c
 dsimp[j0 n,fP,bf4];intro i b;have j:x≠i:=by rintro rfl;rw[aS]at b;cases b
 rw[ao (aG j)]at b;have k:i≠g:=by rintro rfl;rw[aS]at b;cases b
 rw[ao k,ao (aG j)]at b;have l:i≠f:=by rintro rfl;rw[aS]at b;cases b
 dsimp[j0 j,fP,bf5];rw[ao (aG p)]at h1;rw[ao d,ao (aG n)]at c;rw[ao l,ao (aG j)]at b;refine q ⟨x,f,g,i⟩ _ rfl ⟨aS,?_,?_,⟨[],?_,.nil⟩,aG d,by simp⟩ h1 c b λa o=>?_
 .simp only[ao (aG p),ao (aG l),ao (aG d),aS];rfl
 .simp only[ao (aG n),ao (aG k),aS];rfl
 .simp only[ao (aG j),aS];rfl
 .have s:a≠x:=λe=>o (.inl e);have t:a≠f:=λe=>o (.inr (.inl e));have u:a≠g:=λe=>o (.inr (.inr (.inl e)));have v:a≠i:=λe=>o (.inr (.inr (.inr e)));simp only[ao s,ao t,ao u,ao v]
def R5{s}{room:Nat}{g:Sg}{b x}:(x∈g.nodes->x∈(cP (a9 s) room g b).1.nodes)/\(x∈(cP (a9 s) room g b).1.nodes->x∈g.nodes\/x=b)/\(cP (a9 s) room g b).1.next=g.next:=by
 unfold cP;split
 .exact⟨id,.inl,rfl⟩
 .split
  .exact⟨λh=>by simp[h],λh=>by simpa using h,rfl⟩
  .exact⟨id,.inl,rfl⟩
def Dj{s}{room:Nat}{x}:∀(a:List (List (List Nat))) (g:Sg),(x∈g.nodes->x∈(kO s room g a).1.nodes)/\(x∈(kO s room g a).1.nodes->x∈g.nodes\/x∈a)/\(kO s room g a).1.next=g.next
 |[],g=>⟨id,.inl,rfl⟩
 |b::r,g=>by
  obtain⟨c,d,e⟩:=R5 (s:=s) (room:=room) (g:=g) (b:=b) (x:=x);obtain⟨f,i,j⟩:=Dj (s:=s) (room:=room) (x:=x) r (cP (a9 s) room g b).1;refine⟨λh=>f (c h),λh=>?_,j.trans e⟩;rcases i h with h|h
  .rcases d h with h|h
   .exact .inl h
   .exact .inr (by simp[h])
  .exact .inr (by simp[h])
def lp{s}{room:Nat}{b x}{g:Sg}(n:Nat):(x∈g.nodes->x∈(dB s room b g n).1.nodes)/\(x∈(dB s room b g n).1.nodes->x∈g.nodes\/∃i<n,x∈iX (bE (a9 s) (ay s) b i))/\(dB s room b g n).1.next=g.next:=by
 induction n with
 |zero=>exact⟨id,.inl,rfl⟩
 |succ n a=>
  rw[iC];obtain⟨c,d,e⟩:=Dj (s:=s) (room:=room) (x:=x) (iX (bE (a9 s) (ay s) b n)) (dB s room b g n).1;refine⟨λh=>c (a.1 h),λh=>?_,e.trans a.2.2⟩;rcases d h with h|h
  .rcases a.2.1 h with h|⟨i,hi,h⟩
   .exact .inl h
   .exact .inr ⟨i,by lia,h⟩
  .exact .inr ⟨n,by lia,h⟩
def vL(s:ae)(room:Nat)(b:List (List Nat))(g:Sg):Sg:=
 let y:=dB s room b g s.puzzle.doings.length
 {y.1 with next:=y.1.next++[y.2]}
def gI{s}{room n i:Nat}{g:Sg}{b}(h:g.nodes[i]?=Z_ b):cC (a9 s) (ay s) room (n+1) i g=cC (a9 s) (ay s) room n (i+1) (vL s room b g):=by
 conv=>lhs;unfold cC
 rw[h];simp only;rw[So];rfl
def hZ{s}{room n i:Nat}{g:Sg}(h:g.nodes[i]?=ZZ):cC (a9 s) (ay s) room n i g=g:=by
 cases n with
 |zero=>rfl
 |succ n=>unfold cC;rw[h]
def mG{s}{room:Nat}{x}:∀(n i:Nat) (g:Sg),x∈g.nodes->x∈(cC (a9 s) (ay s) room n i g).nodes
 |0,_,_,h=>h
 |n+1,i,g,h=>by
  cases a:g.nodes[i]? with
  |none=>rwa[hZ a]
  |some b=>rw[gI a];exact mG n (i+1) _ ((lp _).1 h)
def jA(room:Nat)(g:Sg)(c3:ak):List (Str×D):=[("room",.int (room:Int)),("over",.bl g.over),("beliefs",.lst (g.nodes.map rP)),("ways",.lst (g.next.map qr)),("numbers",.ref c3)]
section
variable {g:Sg} {room:Nat} {c3:ak}
def Ag:(jA room g c3).lookup ("over":Str)=Z_ (.bl g.over):=rfl
def BX:(jA room g c3).lookup ("beliefs":Str)=Z_ (.lst (g.nodes.map rP)):=rfl
def Mx:(jA room g c3).lookup ("ways":Str)=Z_ (.lst (g.next.map qr)):=rfl
end
abbrev bC(s:ae)(room:Nat)(b:List (List Nat)):Sg:=Vberaf.explore (a9 s) (ay s) room b
inductive a1S:Prop|mk s p U B b room:A'=[.ref B.q,rP b,.int ((room:Nat):Int)]->i_ s p U B B'->YJ s b->(∀v∈b,nB s v)->1<=room->room<=100->(∀x∈(bC s room b).nodes,∀v∈x,v∈U)->(∀c d c3,i_ s p U B c->B' d=ZZ->c d=Z_ (.ins cK (jA room (bC s room b) c3))->uY (λa=>a=B.b2\/a=B.b3\/a=d) B' c->D' (.ref d) c)->a1S
structure Ah(s:ae)(b0:List (List Nat))(g:Sg):Prop where
 ok:∀x∈g.nodes,YJ s x/\(∀v∈x,nB s v)/\x.length<=b0.length
def BY{s}{room:Nat}{c b:List (List Nat)}{g:Sg}(d:mq s)(h:Ah s c g)(e:b∈g.nodes)(hl:c.length<=1000):Ah s c (vL s room b g):=by
 refine⟨λx a=>?_⟩;rcases (lp (s:=s) (room:=room) (b:=b) (x:=x) (g:=g) s.puzzle.doings.length).2.1 a with a|⟨i,f,a⟩
 .exact h.ok x a
 .obtain⟨h1,j,h3⟩:=h.ok b e;obtain⟨k,l,k3,_⟩:=Ld d j (by lia) f x a;exact⟨k,l,by lia⟩
def Sq{s}{room:Nat}{b}(h:1<=room):(cP (a9 s) room {} b).1={nodes:=[b]}:=by unfold cP tD;simp only[List.findIdx_nil,List.length_nil,gC,if_false];rw[i0p (by lia)];rfl
def UN(s:ae)(room:Nat)(g:Sg)(b:List (List Nat)):g.nodes.length<=(cP (a9 s) room g b).1.nodes.length:=by
 unfold cP;split
 .exact aN _
 .split
  .simp
  .exact aN _
def Ai(s:ae)(room:Nat):∀(a:List (List (List Nat))) (g:Sg),g.nodes.length<=(kO s room g a).1.nodes.length
 |[],g=>aN _
 |b::r,g=>c6 (UN s room g b) (Ai s room r _)
def ub(s:ae)(room:Nat)(b:List (List Nat))(g:Sg)(n:Nat):g.nodes.length<=(dB s room b g n).1.nodes.length:=by
 induction n with
 |zero=>exact aN _
 |succ n a=>rw[iC];exact c6 a (Ai s room _ _)
def Li{l:List (Str×D)}{a:ak}{x:D}:cE (λp q=>p.1=q.1/\Vs a x p.2 q.2) l l:=ua (λp=>⟨rfl,.inl rfl⟩) l
nonrec def PQ:dR (KZ a5w a5j a6j cK) El a1S:=by
 intro ds m Q h;obtain⟨s,p,U,B,b,room,rfl,c,hb,hv,N,hr2,hU,q⟩:=h;dsimp[KZ,El];intro ch y;have cch:=c.new (o:=.ins cK []) y;refine⟨ch,room,rfl,aS,λC m1 eC hc1 n1 n2 n3 mv1=>?_⟩;subst eC;have F:∀{a},(bQ m C.ch (.ins cK [])) a=ZZ->m a=ZZ:=λ{a} h=>by
  by_cases e:a=C.ch
  .subst e;rw[aS]at h;cases h
  .rw[ao e]at h;exact h
 have f1:=F n1;have f2:=F n2;have f3:=F n3;have O:∀a,Wp C a->m a=ZZ:=by
  rintro a (e|e|e|e)<;>subst e
  .exact y
  .exact f1
  .exact f2
  .exact f3
 have l:a0B B C:=⟨λa i=>by
  have j:=O a i;have k:=c.ca.noN j;refine⟨k,⟨λe=>?_,λe=>?_⟩,λe=>?_,λe=>?_,λe=>?_,λe=>?_,λe=>?_,λe=>?_,λe=>?_⟩<;>rw[e]at j
  .rw[c.pl.q]at j;cases j
  .rw[c.pl.past]at j;cases j
  .rw[c.pl.puz.z]at j;cases j
  .rw[c.pl.puz.sizes]at j;cases j
  .rw[c.pl.puz.begins]at j;cases j
  .rw[c.pl.puz.spans]at j;cases j
  .rw[c.pl.puz.doings]at j;cases j
  .rw[c.pl.puz.views]at j;cases j
  .rw[c.pl.puz.facts]at j;cases j⟩
 have u:uY (Wp C) m m1:=λa i=>by rw[mv1 a i,ao λe=>i (.inl e)]
 have c1:i_ s p U B m1:=c.of (λa i=>u a λz=>c.a3N (O a z) i rfl) (c.ca.congr (u _ λz=>(c.ca.noN (O _ z)).1 rfl) (u _ λz=>(c.ca.noN (O _ z)).2 rfl));refine⟨s,room,C,{},b,rfl,hc1,hb,gj _,λm2 P R=>?_⟩;rw[Sq N]at P;have c2:=c1.mvC l R;have S:uY (λa=>(a=B.b2\/a=B.b3)\/Wp C a) m m2:=λa i=>by rw[R a (λe=>i (.inr (.inl e))) (λe=>i (.inr (.inr (.inl e)))) (λe=>i (.inr (.inr (.inr (.inr e)))))];exact u a λz=>i (.inr z)
 have final:bC s room b=cC (a9 s) (ay s) room (room+1) 0 {nodes:=[b]}:=rfl
 let I1:LI3:=λn σ w=>∃(at_ fuel:Nat) (g:Sg),n=room-at_/\σ=[Z_ (.ref B.q),Z_ (rP b),Z_ (.int (room:Int)),Z_ (.ref C.ch),Z_ (.int (at_:Int))]/\i_ s p U B w/\iq room C g w/\Ah s b g/\g.nodes.length<=room/\at_<=g.nodes.length/\fuel+at_=room+1/\bC s room b=cC (a9 s) (ay s) room fuel at_ g/\g.next.length=at_/\uY (λa=>(a=B.b2\/a=B.b3)\/Wp C a) m w
 refine⟨I1,⟨room,0,room+1,{nodes:=[b]},rfl,rfl,c2,P,⟨λx T=>?_⟩,by simpa using N,gj _,rfl,final,rfl,S⟩,?_⟩
 .have:x=b:=by simpa using T
  subst this;exact⟨hb,hv,aN _⟩
 .rintro n σ w ⟨at_,fuel,g,rfl,rfl,c3,d,V,X,hat,hfu,r,Y,Z⟩;dsimp[aW _ d.ch,t6,f7 d.nodes,ah];by_cases G:at_<g.nodes.length
  .rw[i0p (by simpa using G)];obtain⟨x,T⟩:∃x,g.nodes[at_]?=Z_ x:=⟨_,aj G⟩
   obtain⟨fuel,rfl⟩:∃f,fuel=f+1:=⟨fuel-1,by lia⟩
   have H:=aJ T;obtain⟨x1,x2,x3⟩:=V.ok x H;rw[gI T]at r;have hxU:∀v∈x,v∈U:=by refine hU x ?_;rw[r];exact mG fuel (at_+1) _ ((lp _).1 H)
   have hatx:tL (g.nodes.map rP) (at_:Int)=Z_ (rP x):=d9 (by simp[T]);have hnoD:eK w (.ref C.c1)=ZZ:=jf d.nodes;dsimp[aW _ d.ch,Wo,d.a2h,t6,hnoD,fU d.nodes,hatx];have hbl:=hb.2.2;refine⟨s,p,U,B,C,room,g,x,rfl,c3,d,l,λv hv=>⟨hxU v hv,x2 v hv⟩,by lia,X,by lia,λm4 c4 t mv4=>?_⟩;obtain⟨wn,wl⟩:=rG (s:=s) (b:=x) X s.puzzle.doings.length;have wm:=(lp (s:=s) (room:=room) (b:=x) (x:=x) (g:=g) s.puzzle.doings.length).2.2;have I:=BY (room:=room) c.good V H hbl;have hln:=ub s room x g s.puzzle.doings.length;generalize hW:dB s room x g s.puzzle.doings.length=W at *;have J:m4 C.c2=Z_ (.lst (W.1.next.map qr)):=t.a2h;have hll:(W.1.next.map qr).length<1000000:=by rw[ah,wm,Y];lia
   dsimp[J,hll];have pad:∀a,X9 B a->a≠C.c2:=λa i=>c.a3N f2 i;have nc2:=l.ne C.c2 (.inr (.inr (.inl rfl)));obtain⟨κs,A,hk2⟩:=t.nums;have m1':C.ch≠C.c2:=λe=>by have:=t.ch;rw[e,J]at this;cases this
   have m3':C.c3≠C.c2:=λe=>by rw[e,J]at A;cases A
   refine⟨room-(at_+1),by lia,at_+1,fuel,vL s room x g,rfl,by simp,c4.upd pad nc2.1.1 nc2.1.2,?_,I,?_,?_,by lia,r,?_,λa i=>?_⟩
   .unfold vL;rw[hW];refine⟨by rw[ao m1'];exact t.ch,by rw[ao t.ne];exact t.nodes,?_,⟨κs,by rwa[ao m3'],hk2⟩,t.ne,t.nd⟩;rw[aS,bU];rfl
   .unfold vL;rwa[hW]
   .unfold vL;rw[hW];show at_+1<=W.1.nodes.length;lia
   .unfold vL;rw[hW];show (W.1.next++[W.2]).length=_;rw[aK,wm,Y];rfl
   .rw[ao λe=>i (.inr (.inr (.inr (.inl e))))];rw[mv4 a ?_]
    .exact Z a i
    .rintro (e|e|e|e|e)
     .exact i (.inl (.inl e))
     .exact i (.inl (.inr e))
     .exact i (.inr (.inl e))
     .exact i (.inr (.inr (.inl e)))
     .exact i (.inr (.inr (.inr (.inr e))))
  .rw[i0n (by simpa using G)];have hend:g.nodes[at_]?=ZZ:=cv (by lia);rw[hZ hend]at r;obtain⟨κs,A,hk2⟩:=d.nums;have d01:C.ch≠C.c1:=λe=>by have:=d.ch;rw[e,d.nodes]at this;cases this
   have d02:C.ch≠C.c2:=λe=>by have:=d.ch;rw[e,d.a2h]at this;cases this
   let fa:List (Str×D):=[("room",.int (room:Int)),("over",.bl g.over),("beliefs",.lst (g.nodes.map rP)),("ways",.ref C.c2),("numbers",.ref C.c3)]
   refine A7.lst C.c1 _ d.nodes (d':=.ref C.ch) (.inl rfl) (m':=bQ (jd w C.c1) C.ch (.ins cK fa)) (λa o h=>?_) ?_
   .by_cases e:a=C.ch
    .subst e;rw[aS]at h;cases h;exact⟨d01,_,d.ch,.ins (.cons ⟨rfl,.inl rfl⟩ (.cons ⟨rfl,.inl rfl⟩ (.cons ⟨rfl,.inr ⟨rfl,rfl⟩⟩ Li)))⟩
    .rw[ao e]at h;unfold jd at h;split at h
     .cases h
     .rename_i E;exact⟨E,o,h,.same⟩
   have hw3:(bQ (jd w C.c1) C.ch (.ins cK fa)) C.c2=Z_ (.lst (g.next.map qr)):=by rw[ao (aG d02),gh (aG d.ne)];exact d.a2h
   refine A7.lst C.c2 _ hw3 (d':=.ref C.ch) (.inl rfl) (m':=bQ (jd (jd w C.c1) C.c2) C.ch (.ins cK (jA room g C.c3))) (λa o h=>?_) ?_
   .by_cases e:a=C.ch
    .subst e;rw[aS]at h;cases h;exact⟨d02,_,aS,.ins (.cons ⟨rfl,.inl rfl⟩ (.cons ⟨rfl,.inl rfl⟩ (.cons ⟨rfl,.inl rfl⟩ (.cons ⟨rfl,.inr ⟨rfl,rfl⟩⟩ Li))))⟩
    .rw[ao e]at h;unfold jd at h;split at h
     .cases h
     .rename_i E;refine⟨E,o,?_,.same⟩;rwa[ao e]
   let mC:M:=λa=>if a=C.ch then Z_ (.ins cK (jA room g C.c3)) else if a=B.b2\/a=B.b3 then w a else m a
   have b2n:=l.ne C.ch (.inl rfl);have K:∀a,a=B.b2\/a=B.b3->mC a=w a:=λa i=>by
    have:a≠C.ch:=by rintro rfl;rcases i with e|e;exact b2n.1.1 e;exact b2n.1.2 e
    show (if a=C.ch then _ else if a=B.b2\/a=B.b3 then w a else m a)=_;rw[i0n this,i0p i]
   have L:∀a,a≠C.ch->¬(a=B.b2\/a=B.b3)->mC a=m a:=λa h1 h2=>by show (if a=C.ch then _ else if a=B.b2\/a=B.b3 then w a else m a)=_;rw[i0n h1,i0n h2]
   refine A7.done (m':=mC) (λa o h=>?_) (q mC C.ch C.c3 ?_ y ?_ λa i=>?_)
   .by_cases e:a=C.ch
    .subst e;rw[aS];rw[<-h];show _=(if C.ch=C.ch then _ else _)
     rw[i0p rfl]
    .rw[ao e];by_cases E:a=B.b2\/a=B.b3
     .rw[K a E]at h;have e3:a≠C.c2:=by rintro rfl;exact E.elim (l.ne C.c2 (.inr (.inr (.inl rfl)))).1.1 (l.ne C.c2 (.inr (.inr (.inl rfl)))).1.2
      have e4:a≠C.c1:=by rintro rfl;exact E.elim (l.ne C.c1 (.inr (.inl rfl))).1.1 (l.ne C.c1 (.inr (.inl rfl))).1.2
      rwa[gh e3,gh e4]
     .rw[L a e E]at h;have nC:¬Wp C a:=λz=>by rw[O a z]at h;cases h
      rwa[gh λz=>nC (.inr (.inr (.inl z))),gh λz=>nC (.inr (.inl z)),Z a λz=>z.elim E nC]
   .refine c.of (λa i=>?_) (c3.ca.congr (K _ (.inl rfl)) (K _ (.inr rfl)));obtain⟨_,k2,k3⟩:=c.pad i;exact L a (c.a3N y i) λz=>z.elim k2 k3
   .rw[r];show (if C.ch=C.ch then _ else _)=_;rw[i0p rfl]
   .exact L a (λe=>i (.inr (.inr e))) λz=>i (z.elim .inl λz=>.inr (.inl z))
inductive a5G:Prop|mk s p B b:A'=[.ref B.q,rP b]->mq s->eP s p B B'->(∀v∈b,nB s v)->D' (.bl (yu (a9 s) b)) B'->a5G
def IJ{s p B b m Q}(g:mq s)(h:eP s p B m)(a:∀v∈b,nB s v)(q:Q (.bl (yu (a9 s) b)) m):a5G [.ref B.q,rP b] m Q:=⟨s,p,B,b,rfl,g,h,a,q⟩
def eP.sub{s p B m m'}(h:eP s p B m)(k:Cj m m'):eP s p B m':=⟨h.puz.sub k,k _ _ h.q,k _ _ h.past⟩
def IK:dR (Bb a5q) uB a5G:=by
 intro ds m Q h;obtain⟨s,p,B,b,rfl,g,l,n,q⟩:=h;simp only[rP];dsimp[Bb,uB,ku,cS,f_,kS];intro a j;refine QZ b eV (λv=>Z_ (.bl (s.puzzle.goal.all (jD v)))) rfl (λd=>∃c,d=bQ m a (.lst c)) ⟨_,rfl⟩ (λd c ⟨x,e⟩=>⟨c,by rw[e,cy]⟩) (λ_ _=>trivial) (λv i d c k hm X Y o hY=>?_) λd ⟨x,e⟩ hm=>?_
 .have f:eP s p B d:=by
   obtain⟨x,e⟩:=k;rw[e];exact l.sub (Cj.new j)
  dsimp[ib,aW _ f.q,iH];exact⟨s,B.A,v,rfl,f.puz,by rw[(n v i).len];exact g.goal,o _ d rfl k hm⟩
 .subst e;have r:b.filterMap (λv=>Z_ (D.bl (s.puzzle.goal.all (jD v))))=(b.map λv=>s.puzzle.goal.all (jD v)).map D.bl:=by rw[bq];exact rh λ_ _=>rfl
  simp only[r,ia j,lg,kY,w6];exact .ret q
abbrev Lv:=qZ
def xa(l:Lv)(r:List Nat):Bool:=r.all λi=>(au l i).isSome
def YK(n:Nat)(ws:List (Nat×List Nat)):Prop:=∀w∈ws,∀i∈w.2,i<n
def uR{l:Lv}{i:Nat}(h:i<l.length):tL (l.map fX) (i:Int)=Z_ (fX (au l i)):=by refine d9 ?_;unfold au;rw[aR,aj h,aI,aj h];rfl
def Lj{m x l}{i:Int}{d Q}(h:ej m x=Z_ l)(b:tL l i=Z_ d)(q:Q d m):fZ x (.int i) m Q:=by
 unfold fZ;cases x with
 |lst l'=>cases h;simp only[Py,S9,S8,b];exact q
 |ref a=>
  have c:eK m (.ref a)=ZZ:=by
   cases hm:m a with
   |none=>simp[ej,hm]at h
   |some o=>cases o with
    |lst _=>simp[eK,hm]
    |_=>simp[ej,hm]at h
  simp only[c,Sa,h,b];exact q
 |_=>cases h
def PR(o:Option Nat):rZ (fX o)=o.isNone:=by cases o<;>rfl
inductive a5J:Prop|mk (a:List (Nat×List Nat)) (x:D) (l:Lv):A'=[qr a,x]->ej B' x=Z_ (l.map fX)->YK l.length a->D' (.bl (a.any λw=>xa l w.2)) B'->a5J
def Gk:dR zi sH a5J:=by
 intro ds m Q h;obtain⟨k,x,l,rfl,B,n,q⟩:=h;simp only[qr];dsimp[zi,sH,dQ,cS,f_]
 let C:LI3:=λi σ g=>∃o p r,σ=[Z_ (.lst (k.map ED)),Z_ x,o,p,r]/\g=m/\(k.any λw=>xa l w.2)=((k.drop i).any λw=>xa l w.2)
 refine⟨C,⟨ZZ,ZZ,ZZ,rfl,rfl,rfl⟩,λ_ _ _ _ _=>trivial,?_,?_⟩
 .rintro i d σ g E ⟨o,p,r,rfl,rfl,f⟩;obtain⟨w,v,rfl⟩:=VG E;obtain⟨s,t⟩:=ax.mp v;rw[cf s,t,fm]at f;have hw:=n w (aJ v);dsimp[ED,ku,cS,f_,kS];intro a y;refine QZ w.2 eN (λi=>Z_ (.bl (au l i).isSome)) rfl (λb=>∃c,b=bQ g a (.lst c)) ⟨_,rfl⟩ (λb c ⟨x,e⟩=>⟨c,by rw[e,cy]⟩) (λ_ _=>trivial) (λj F b c A hm X Y G hY=>?_) λb ⟨z,e⟩ hm=>?_
  .have u:ej b x=Z_ (l.map fX):=by
    obtain⟨z,e⟩:=A;rw[e];exact Aa B y
   simp only[Tg.set,ib,BC,bj,aT,G8,v9,yp,yq,if_true,eN];refine Lj u (uR (hw j F)) ?_;simp only[PR];refine G _ b ?_ A hm;cases au l j<;>rfl
  .subst e;have H:w.2.filterMap (λi=>Z_ (D.bl (au l i).isSome))=(w.2.map λi=>(au l i).isSome).map D.bl:=by rw[bq];exact rh λ_ _=>rfl
   simp only[H,ia y,lg,kY,w6];refine dY (λh=>?_) λh=>?_
   .rw[show xa l w.2=ZY from h]at f;rw[f]at q;exact .ret (by simpa using q)
   .rw[show xa l w.2=ZX from h]at f;exact⟨_,_,_,rfl,rfl,by simpa using f⟩
 .rintro σ g ⟨o,p,r,rfl,rfl,f⟩;rw[ah,fw]at f;rw[f]at q;exact .ret q
def kG{l r}:bh l r=ZZ↔xa l r=ZX:=by
 induction r with
 |nil=>simp[bh,xa]
 |cons i r c=>
  unfold bh xa;rw[eO];cases hi:au l i with
  |none=>simp
  |some a=>
   cases d:bh l r with
   |none=>rw[d]at c;simp only[true_iff]at c;unfold xa at c;rw[c];simp
   |some b=>rw[d]at c;simp only[reduceCtorEq,false_iff]at c;unfold xa at c;simp at c ⊢;exact c
def xb{l r}{n:Nat}(o:r≠[])(h:bh l r=Z_ n):(∃i∈r,au l i=Z_ n)/\∀i∈r,∃a,au l i=Z_ a/\a<=n:=by
 induction r generalizing n with
 |nil=>exact absurd rfl o
 |cons i r p=>
  unfold bh at h;cases d:au l i with
  |none=>rw[d]at h;cases h
  |some a=>
   cases g:bh l r with
   |none=>rw[d,g]at h;cases h
   |some b=>
    rw[d,g]at h;have e:max a b=n:=az h;subst e;by_cases f:r=[]
    .subst f;have:b=0:=by simpa[bh] using g.symm
     subst this;have q:max a 0=a:=by lia
     rw[q];exact⟨⟨i,by simp,d⟩,λj m=>by simp at m;subst m;exact⟨a,d,aN _⟩⟩
    .obtain⟨⟨j,m,s⟩,t⟩:=p f g;refine⟨?_,λk hk=>?_⟩
     .by_cases hab:a<=b
      .exact⟨j,by simp[m],by rw[s];congr 1;lia⟩
      .exact⟨i,by simp,by rw[d];congr 1;lia⟩
     .rcases aL.mp hk with e|hk
      .subst e;exact⟨a,d,by lia⟩
      .obtain⟨c,h1,h2⟩:=t k hk;exact⟨c,h1,by lia⟩
def uS(l:Lv)(r:List Nat)(a:Int):Bool:=match bh l r with
 |some n=>decide ((n:Int)=a-1)
 |none=>ZX
inductive a5Q:Prop|mk (r:List Nat) (x:D) (l:Lv) (a:Int):A'=[.lst (dN r),x,.int a]->ej B' x=Z_ (l.map fX)->r≠[]->(∀i∈r,i<l.length)->D' (.bl (uS l r a)) B'->a5Q
def UO(l:List (Option Nat)):((l.map fX).any λz=>Pp z .non)=!(l.all λo=>o.isSome):=by
 induction l with
 |nil=>rfl
 |cons o l a=>rw[aQ,fm,a,eO];cases o<;>simp[fX,Pp]
def Lk:∀{l:List (Option Nat)},(l.all λo=>o.isSome)=ZY->∃a:List Nat,l=a.map Z_
 |[],_=>⟨[],rfl⟩
 |none::l,h=>by simp at h
 |some n::l,h=>by rw[eO]at h;obtain⟨a,e⟩:=Lk (l:=l) (by simpa using h);exact⟨n::a,by rw[e];rfl⟩
def Dk:dR vE pA a5Q:=by
 intro ds m Q h;obtain⟨r,x,l,lev,rfl,K,F,t,q⟩:=h;dsimp[vE,pA,ku,cS,f_,kS];intro a G;refine QZ r eN (λi=>Z_ (fX (au l i))) rfl (λb=>∃f,b=bQ m a (.lst f)) ⟨_,rfl⟩ (λb f ⟨x,e⟩=>⟨f,by rw[e,cy]⟩) (λ_ _=>trivial) (λj u b f H hm X Y L hY=>?_) λb ⟨z,e⟩ hm=>?_
 .have v:ej b x=Z_ (l.map fX):=by
   obtain⟨z,e⟩:=H;rw[e];exact Aa K G
  simp only[Tg.set,ib,bj,aT,G8,v9,yp,yq,if_true,eN];refine Lj v (uR (t j u)) ?_;exact L _ b rfl H hm
 .subst e;have M:r.filterMap (λi=>Z_ (fX (au l i)))=(r.map (au l)).map fX:=by rw[bq];exact rh λ_ _=>rfl
  simp only[M,ia G];have w:(lS D.non).isSome=ZY/\(((r.map (au l)).map fX).all λd=>(lS d).isSome)=ZY:=⟨rfl,Lf _⟩
  rw[i0p w];have I:((r.map (au l)).all λo=>o.isSome)=xa l r:=by rw[kY];rfl
  rw[UO,I,ug];unfold uS at q;refine dY (λh=>?_) λh=>?_
  .obtain⟨A,p⟩:=Lk (l:=r.map (au l)) (by rwa[I]);have N:((r.map (au l)).map fX)=dI (zI A):=by
    rw[p,bq,<-FO];rfl
   rw[N];simp only[Es];cases s:bh l r with
   |none=>rw[kG.mp s]at h;cases h
   |some n=>
    rw[s]at q;obtain⟨⟨i,O,P⟩,R⟩:=xb F s;refine⟨?_,λy S B=>?_⟩
    .cases r with
     |nil=>exact absurd rfl F
     |cons i r=>have:=congrArg xq p;simp at this;simp[zI];lia
    .have g:∀k:Nat,(k:Int)∈zI A↔Z_ k∈r.map (au l):=λk=>by
      rw[p];unfold zI;simp only[aF,iY];constructor
      .rintro⟨a,h1,C⟩;exact⟨a,h1,by lia⟩
      .rintro⟨a,h1,C⟩;exact⟨a,h1,by lia⟩
     have E:y=(n:Int):=by
      have h1:(n:Int)<=y:=B _ ((g n).mpr (aF.mpr ⟨i,O,P⟩));obtain⟨k,T,rfl⟩:∃k:Nat,k∈A/\(k:Int)=y:=by simpa[zI] using S
      obtain⟨j,u,J⟩:=aF.mp ((g k).mp (by unfold zI;exact aF.mpr ⟨k,T,rfl⟩));obtain⟨c,C,h3⟩:=R j u;rw[C]at J;cases J;lia
     subst E;exact .ret q
  .have s:=kG.mpr h;rw[s]at q;exact .ret q
def My(g:Sg)(l:Lv)(i:Nat)(a:Int):Option (Nat×List Nat):=(g.next.getD i []).find? λw=>uS l w.2 a
def PU:Option (Nat×List Nat)->D
 |none=>.non
 |some w=>ED w
structure a0d(g:Sg)(l:Lv):Prop where
 len:∀ws∈g.next,∀w∈ws,w.2≠[]/\∀i∈w.2,i<l.length
inductive a4y:Prop|mk (b c:ak) (room:Nat) (g:Sg) (l:Lv) (i k:Nat):A'=[.ref b,.lst (l.map fX),.int (i:Int)]->B' b=Z_ (.ins cK (jA room g c))->i<g.next.length->i<l.length->au l i=Z_ k->a0d g l->D' (PU (My g l i (k:Int))) B'->a4y
def PV:dR (K_ a5Q) En a4y:=by
 intro ds m Q h;obtain⟨A,c3,room,g,l,i,k,rfl,e,f,n,B,o,q⟩:=h;obtain⟨c,b⟩:∃c,g.next[i]?=Z_ c:=⟨_,aj f⟩
 have p:tL (g.next.map qr) (i:Int)=Z_ (qr c):=d9 (by simp[b]);have r:=o.len c (aJ b);have s:tL (l.map fX) (i:Int)=Z_ (.int (k:Int)):=by rw[uR n,B];rfl
 unfold My at q;rw[aI,b]at q;simp only[qD]at q;dsimp[K_,En,dQ,cS,aW _ e,Mx,p];simp only[qr,f_]
 let C:LI3:=λj σ t=>∃u v,σ=[Z_ (.ref A),Z_ (.lst (l.map fX)),Z_ (.int (i:Int)),u,v]/\t=m/\(c.find? λw=>uS l w.2 (k:Int))=(c.drop j).find? λw=>uS l w.2 (k:Int)
 refine⟨C,⟨ZZ,ZZ,rfl,rfl,rfl⟩,λ_ _ _ _ _=>trivial,?_,?_⟩
 .rintro j d σ t D ⟨u,v,rfl,rfl,a⟩;obtain⟨w,z,rfl⟩:=VG D;obtain⟨x,y⟩:=ax.mp z;rw[cf x,y]at a;obtain⟨E,F⟩:=r w (aJ z);dsimp[ED,s];refine⟨w.2,_,l,(k:Int),rfl,rfl,E,F,?_⟩;dsimp[];refine dY (λh=>?_) λh=>?_
  .rw[eL,show uS l w.2 (k:Int)=ZY from h]at a;rw[a]at q;exact .ret q
  .rw[eL,show uS l w.2 (k:Int)=ZX from h]at a;exact⟨_,_,rfl,rfl,a⟩
 .rintro σ t ⟨u,v,rfl,rfl,a⟩;rw[ah,fw]at a;rw[a]at q;exact .ret q
inductive a4a:Prop|mk (x:D) (l:List D):A'=[x]->yI B' x=Z_ l->l.length<=100000->D' (.lst (.int (l.length:Int)::l)) B'->a4a
def JR:dR D0 wF a4a:=by
 intro ds m Q h;obtain⟨x,l,rfl,a,hl,q⟩:=h;have h1:1+l.length<=1000000:=by lia
 dsimp[D0,wF,a,h1];exact .ret q
def Gm(s:ae)(g:Sg):Lv:=g.nodes.map λb=>if yu (a9 s) b=ZY then Z_ 0 else ZZ
def xc(g:Sg)(l:Lv)(x:List (Nat×List Nat)×Nat):Bool:=(au l x.2).isNone&&x.1.any λw=>xa l w.2
def gP(g:Sg)(l:Lv):List Nat:=g.next.zipIdx.filterMap λx=>if xc g l x=ZY then Z_ x.2 else ZZ
def kP(l:Lv)(a:List Nat)(k:Nat):Lv:=a.foldl (λl i=>l.set i (Z_ k)) l
def iter(g:Sg):Nat->Nat->Lv->Lv
 |0,_,l=>l
 |n+1,k,l=>if (gP g l).isEmpty=ZY then l else iter g n (k+1) (kP l (gP g l) (k+1))
def nones(l:Lv):Nat:=(l.filter λo=>o.isNone).length
def xf(l:Lv)(a:List Nat)(k:Nat):(kP l a k).length=l.length:=by
 unfold kP;induction a generalizing l with
 |nil=>rfl
 |cons i a b=>rw[d5,b,d4]
def Mz(l:Lv)(i k:Nat):nones (l.set i (Z_ k))<=nones l:=by
 unfold nones;induction l generalizing i with
 |nil=>simp
 |cons o l a=>
  cases i with
  |zero=>
   simp only[G8,iU,Option.isNone_some,bR,if_false];split
   .simp
   .exact aN _
  |succ i=>
   simp only[v9,iU];have:=a i;split
   .simp;exact this
   .exact this
def MA(l:Lv)(i k:Nat)(a:i<l.length)(h:au l i=ZZ):nones (l.set i (Z_ k))<nones l:=by
 unfold nones;induction l generalizing i with
 |nil=>simp at a
 |cons o l b=>
  cases i with
  |zero=>
   have:o=ZZ:=by simpa[au] using h
   subst this;simp[iU]
  |succ i=>
   have:=b i (by simpa using a) (by simpa[au] using h);simp only[v9,iU];split
   .simp;exact this
   .exact this
def Gn(l:Lv)(a:List Nat)(k:Nat):nones (kP l a k)<=nones l:=by
 unfold kP;induction a generalizing l with
 |nil=>exact aN _
 |cons i a b=>rw[d5];exact c6 (b _) (Mz l i k)
nonrec def vM{g:Sg}{l}{i:Nat}(h:i∈gP g l):i<g.next.length/\au l i=ZZ:=by
 unfold gP at h;obtain⟨x,b,e⟩:=dz.mp h;split at e
 .rename_i a;cases az e;have c:=dJ.mp b;refine⟨(ax.mp c).1,?_⟩;unfold xc at a;rw[a_]at a;simpa using a.1
 .cases e
def Dl{g:Sg}{l:Lv}{k:Nat}(hl:g.next.length<=l.length)(h:(gP g l).isEmpty=ZX):nones (kP l (gP g l) k)<nones l:=by
 cases a:gP g l with
 |nil=>rw[a]at h;cases h
 |cons i b=>obtain⟨h1,c⟩:=vM (g:=g) (l:=l) (i:=i) (by rw[a];simp);unfold kP;rw[d5];exact Nat.lt_of_le_of_lt (Gn _ b k) (MA l i k (by lia) c)
def IL(l:Lv):nones l<=l.length:=fS _ _
structure kW(s:ae)(g:Sg):Prop where
 len:g.next.length=g.nodes.length
 a2h:∀ws∈g.next,∀w∈ws,w.2≠[]/\∀i∈w.2,i<g.nodes.length
 nodes:∀b∈g.nodes,∀v∈b,nB s v
def iR(s:ae)(g:Sg):Lv:=iter g (g.nodes.length+1) 0 (Gm s g)
inductive a1Z:Prop|mk s p B b c room g:A'=[.ref B.q,.ref b]->mq s->eP s p B B'->B' b=Z_ (.ins cK (jA room g c))->kW s g->D' (.lst ((iR s g).map fX)) B'->a1Z
def MB(l:List (List (Nat×List Nat))):yF (l.map qr)=l.zipIdx.map λx=>D.tup [.int (x.2:Int),qr x.1]:=by unfold yF;rw[List.zipIdx_map,bq];rfl
def MC:dR (FJ a5G a5J) zk a1Z:=by
 intro ds m Q h;obtain⟨s,p,B,R,c3,room,g,rfl,gd,hp,C,hm,q⟩:=h;dsimp[FJ,zk,Kz,cS,aW _ C,BX,f_,kS];intro a S;refine QZ g.nodes rP (λb=>Z_ (fX (if yu (a9 s) b=ZY then Z_ 0 else ZZ))) rfl (λc=>∃r,c=bQ m a (.lst r)) ⟨_,rfl⟩ (λc r ⟨x,e⟩=>⟨r,by rw[e,cy]⟩) (λ_ _=>trivial) (λb hb c r y o X Y v E=>?_) λc ⟨x,e⟩ o=>?_
 .have V:eP s p B c:=by
   obtain⟨x,e⟩:=y;rw[e];exact hp.sub (Cj.new S)
  dsimp[ib];refine IJ gd V (hm.nodes b hb) ?_;dsimp[];refine dY (λh=>?_) λh=>?_
  .rw[h]at v;exact v _ c rfl y o
  .rw[h]at v;exact v _ c rfl y o
 .have e2:g.nodes.filterMap (λb=>Z_ (fX (if yu (a9 s) b=ZY then Z_ 0 else ZZ)))=(Gm s g).map fX:=by unfold Gm;rw[bq];exact rh λ_ _=>rfl
  subst e;rw[aS,e2]at o;cases o;have na:R≠a:=by rintro rfl;rw[C]at S;cases S
  have W:(Gm s g).length=g.nodes.length:=by simp[Gm]
  let Z:LI3:=λn σ c=>∃(k fuel:Nat) (l:Lv) (J:Bool) (y5 F T U:Option D),σ=[Z_ (.ref B.q),Z_ (.ref R),Z_ (.ref a),Z_ (.int (k:Int)),Z_ (.bl J),y5,F,T,U]/\n=nones l+(if J=ZY then 1 else 0)/\c=bQ m a (.lst (l.map fX))/\l.length=g.nodes.length/\(J=ZY->nones l<fuel/\iR s g=iter g fuel k l)/\(J=ZX->iR s g=l)
  refine⟨Z,⟨_,0,g.nodes.length+1,Gm s g,ZY,ZZ,ZZ,ZZ,ZZ,rfl,rfl,rfl,W,λ_=>⟨?_,rfl⟩,λh=>by cases h⟩,?_⟩
  .have:=IL (Gm s g);lia
  .rintro n σ c ⟨k,fuel,l,J,y5,F,T,U,rfl,rfl,rfl,K,h1,h2⟩;cases J with
   |false=>dsimp[];rw[h2 rfl]at q;exact .new S q
   |true=>
    obtain⟨hf,u⟩:=h1 rfl;obtain⟨fuel,rfl⟩:∃f,fuel=f+1:=⟨fuel-1,by lia⟩
    have L:(bQ m a (.lst (l.map fX))) R=Z_ (.ins cK (jA room g c3)):=by rwa[ao na]
    dsimp[ku,r_,aW _ L,Mx,r8,f_,kS];intro a2 G;have n2:a2≠a:=by rintro rfl;rw[aS]at G;cases G
    refine QZ g.next.zipIdx (λx=>D.tup [.int (x.2:Int),qr x.1]) (λx=>if xc g l x=ZY then Z_ (.int (x.2:Int)) else ZZ) (MB g.next) (λc=>∃r,c=bQ (bQ m a (.lst (l.map fX))) a2 (.lst r)) ⟨_,rfl⟩ (λc r ⟨x,e⟩=>⟨r,by rw[e,cy]⟩) (λ_ _=>trivial) (λx hx c r y o X Y v E=>?_) λc ⟨z,e⟩ o=>?_
    .have A:=dJ.mp hx;have M:=(ax.mp A).1;have H:c a=Z_ (.lst (l.map fX)):=by
      obtain⟨z,e⟩:=y;rw[e,ao (aG n2),aS]
     have I:x.2<l.length:=by rw[K,<-hm.len];exact M
     have N:eK c (.ref a)=ZZ:=jf H;dsimp[N,fU H,uR I];unfold xc at v E;cases O:au l x.2 with
     |some j=>rw[O]at E;dsimp[fX];exact E c (by simp) y o
     |none=>
      rw[O]at v E;dsimp[fX];refine⟨x.1,.ref a,l,rfl,fU H,λw hw i hi=>?_,?_⟩
      .rw[K];exact (hm.a2h x.1 (aJ A) w hw).2 i hi
      .dsimp[];refine dY (λh=>?_) λh=>?_
       .rw[h]at v;exact v _ c rfl y o
       .rw[h]at E;exact E c rfl y o
    .subst e;have ef:g.next.zipIdx.filterMap (λx=>if xc g l x=ZY then Z_ (D.int (x.2:Int)) else ZZ)=dN (gP g l):=by
      unfold gP dN;rw[List.map_filterMap]
      congr 1
      funext x
      split<;>rfl
     rw[ef];rw[ia G];rw[dQ];dsimp[cS,f_]
     let Z:LI3:=λj σ c=>∃F,σ=[Z_ (.ref B.q),Z_ (.ref R),Z_ (.ref a),Z_ (.int ((k:Int)+1)),Z_ (.bl ZY),Z_ (.lst (dN (gP g l))),F,T,U]/\c=bQ m a (.lst ((kP l ((gP g l).take j) (k+1)).map fX))
     refine⟨Z,⟨_,rfl,rfl⟩,λ_ _ _ _ _=>trivial,?_,?_⟩
     .rintro j d σ c hd ⟨F,rfl,rfl⟩;unfold dN at hd;obtain⟨i,hj,rfl⟩:=VG hd;have hfi:=vM (aJ hj);have I:i<(kP l ((gP g l).take j) (k+1)).length:=by rw[xf,K,<-hm.len];exact hfi.1
      dsimp[eN,ah,He I,cy];refine⟨_,rfl,?_⟩
      congr 2
      rw[eW hj];unfold kP;rw[gD];simp only[d5,List.foldl_nil];rw[Hv]
      congr 1
     .rintro σ c ⟨F,rfl,rfl⟩;rw[fF,cO];dsimp[fF];rw[show iter g (fuel+1) k l=if (gP g l).isEmpty=ZY then l else iter g fuel (k+1) (kP l (gP g l) (k+1)) from rfl]at u;have hk1:((k:Int)+1)=((k+1:Nat):Int):=by lia
      rw[hk1];cases t:(gP g l).isEmpty with
      |true=>
       have P:gP g l=[]:=by simpa using t
       rw[t,i0p rfl]at u;rw[P];refine⟨nones l,?_,k+1,fuel,l,ZX,_,_,_,_,rfl,rfl,rfl,K,⟨λh=>(by cases h),λ_=>u⟩⟩;simp
      |false=>
       rw[t,i0n aB]at u;have hpos:0<(gP g l).length:=by cases hq:gP g l with|nil=>rw[hq]at t;cases t|cons _ _=>simp
       have M:=Dl (k:=k+1) (g:=g) (l:=l) (by rw[K,hm.len];exact aN _) t;refine⟨nones (kP l (gP g l) (k+1))+1,?_,k+1,fuel,kP l (gP g l) (k+1),ZY,Z_ (.lst (dN (gP g l))),F,T,U,?_,rfl,rfl,by rwa[xf],λ_=>⟨by lia,u⟩,λh=>by cases h⟩
       .simp;lia
       .have:decide ((0:Int)<((gP g l).length:Int))=ZY:=by simp;lia
        rw[this]
def Gp(l:Lv)(w:Nat×List Nat):Option Nat:=(bh l w.2).map λk=>k+1
def BZ(l:Lv)(ws:List (Nat×List Nat)):Option Nat:=ws.foldl (λn e=>let k:=(bh l e.2).map λk=>k+1;if cF k n=ZY then k else n) ZZ
def Ob(a:Option Nat):cF a a=ZX:=by cases a<;>simp[cF]
def Sr{a}(h:cF a ZZ=ZX):a=ZZ:=by cases a<;>simp[cF]at h ⊢
def IM{a b c}(h1:cF a b=ZX)(h2:cF b c=ZX):cF a c=ZX:=by cases a<;>cases b<;>cases c<;>simp_all[cF];lia
def Ss{a b}(h:cF a b=ZY):cF b a=ZX:=by cases a<;>cases b<;>simp_all[cF];lia
def EG(l:Lv):∀(ws:List (Nat×List Nat)) (acc:Option Nat),let r:=ws.foldl (λn e=>let k:=(bh l e.2).map λk=>k+1;if cF k n=ZY then k else n) acc
  (r=acc\/∃w∈ws,r=Gp l w)/\(∀w∈ws,cF (Gp l w) r=ZX)/\cF acc r=ZX
 |[],acc=>⟨.inl rfl,by simp,Ob acc⟩
 |e::ws,acc=>by
  intro r;have c:=EG l ws (if cF (Gp l e) acc=ZY then Gp l e else acc);have f:r=ws.foldl (λn e=>let k:=(bh l e.2).map λk=>k+1;if cF k n=ZY then k else n) (if cF (Gp l e) acc=ZY then Gp l e else acc):=rfl;simp only at c;rw[<-f]at c;obtain⟨h1,d,a⟩:=c;by_cases b:cF (Gp l e) acc=ZY
  .rw[i0p b]at h1 a;refine⟨?_,λw hw=>?_,IM (Ss b) a⟩
   .rcases h1 with h|⟨w,hw,h⟩
    .exact .inr ⟨e,by simp,h⟩
    .exact .inr ⟨w,by simp[hw],h⟩
   .rcases aL.mp hw with h|h
    .subst h;exact a
    .exact d w h
  .rw[i0n b]at h1 a;have b:cF (Gp l e) acc=ZX:=by simpa using b
   refine⟨?_,λw hw=>?_,a⟩
   .rcases h1 with h|⟨w,hw,h⟩
    .exact .inl h
    .exact .inr ⟨w,by simp[hw],h⟩
   .rcases aL.mp hw with h|h
    .subst h;exact IM b a
    .exact d w h
def nu{l ws}{v:Nat}(h:BZ l ws=Z_ v):∃n,v=n+1/\(∃w∈ws,bh l w.2=Z_ n)/\∀w∈ws,∀k,bh l w.2=Z_ k->n<=k:=by
 obtain⟨h1,a,_⟩:=EG l ws ZZ;rw[show ws.foldl _ ZZ=BZ l ws from rfl,h]at h1;have a:∀w∈ws,cF (Gp l w) (Z_ v)=ZX:=λw hw=>by have:=a w hw;rw[show ws.foldl _ ZZ=BZ l ws from rfl,h]at this;exact this
 rcases h1 with h1|⟨w,hw,h1⟩
 .cases h1
 .unfold Gp at h1;cases b:bh l w.2 with
  |none=>rw[b]at h1;cases h1
  |some n=>rw[b]at h1;cases h1;refine⟨n,rfl,⟨w,hw,b⟩,λd c k e=>?_⟩;have:=a d c;unfold Gp at this;rw[e]at this;simp[cF]at this;lia
def EH{l ws}(h:BZ l ws=ZZ):∀w∈ws,bh l w.2=ZZ:=by
 obtain⟨_,a,_⟩:=EG l ws ZZ;intro w hw;have:=a w hw;rw[show ws.foldl _ ZZ=BZ l ws from rfl,h]at this;have:=Sr this;unfold Gp at this;cases b:bh l w.2 with
 |none=>rfl
 |some n=>rw[b]at this;cases this
def Ws{l ws}{n:Nat}(h1:∃w∈ws,bh l w.2=Z_ n)(e:∀w∈ws,∀k,bh l w.2=Z_ k->n<=k):BZ l ws=Z_ (n+1):=by
 obtain⟨w,hw,a⟩:=h1;cases d:BZ l ws with
 |none=>rw[EH d w hw]at a;cases a
 |some v=>
  obtain⟨f,rfl,⟨g,b,c⟩,h⟩:=nu d;have:=e g b f c;have:=h w hw n a
  congr 1;lia
abbrev gQ(s:ae)(g:Sg)(l:Lv):Lv:=Vberaf.round (a9 s) g l
abbrev PX(s:ae)(b:List (List Nat)):Bool:=yu (a9 s) b
structure At(g:Sg)(i:Nat)(b:List (List Nat))(ws:List (Nat×List Nat)):Prop where
 nb:g.nodes[i]?=Z_ b
 nw:g.next[i]?=Z_ ws
def lq{s g l}{i:Nat}{b ws}(h:At g i b ws):au (gQ s g l) i=if PX s b=ZY then Z_ 0 else BZ l ws:=by
 unfold au gQ Vberaf.round;rw[aI,aR];have:(g.nodes.zip g.next)[i]?=Z_ (b,ws):=by rw[List.getElem?_zip_eq_some];exact⟨h.nb,h.nw⟩
 rw[this];rfl
def PY{a b:Lv}(c:a.length=b.length)(h:∀i<a.length,au a i=au b i):a=b:=by refine List.ext_getElem c λi h1 d=>?_;have:=h i h1;unfold au at this;rw[aI,aI,aj h1,aj d]at this;exact this
def xg{a b}(h:∀i j,au a i=Z_ j->au b i=Z_ j):∀{r:List Nat} {n:Nat},bh a r=Z_ n->bh b r=Z_ n
 |[],n,c=>c
 |i::r,n,c=>by
  unfold bh at c ⊢;cases d:au a i with
  |none=>rw[d]at c;cases c
  |some x=>
   cases e:bh a r with
   |none=>rw[d,e]at c;cases c
   |some y=>rw[d,e]at c;rwa[h i x d,xg h e]
def FT{l}:∀{r:List Nat} {n i j:Nat},bh l r=Z_ n->i∈r->au l i=Z_ j->j<=n
 |[],_,_,_,_,hi,_=>by cases hi
 |x::r,n,i,j,c,hi,f=>by
  unfold bh at c;cases d:au l x with
  |none=>rw[d]at c;cases c
  |some a=>
   cases g:bh l r with
   |none=>rw[d,g]at c;cases c
   |some b=>
    rw[d,g]at c;cases az c;rcases aL.mp hi with e|hi
    .subst e;rw[d]at f;cases f;lia
    .have:=FT g hi f;lia
def zO{l}{k:Nat}(h:∀i j,au l i=Z_ j->j<=k):∀{r:List Nat} {n:Nat},bh l r=Z_ n->n<=k
 |[],n,c=>by cases az c;lia
 |x::r,n,c=>by
  unfold bh at c;cases d:au l x with
  |none=>rw[d]at c;cases c
  |some a=>
   cases e:bh l r with
   |none=>rw[d,e]at c;cases c
   |some b=>rw[d,e]at c;cases az c;have:=zO h e;have:=h x a d;lia
def UP{l r}(h:xa l r=ZX):∃i∈r,au l i=ZZ:=by unfold xa at h;rw[List.all_eq_false]at h;obtain⟨i,a,e⟩:=h;exact⟨i,a,by simpa using e⟩
structure JS(s:ae)(g:Sg)(k:Nat)(l:Lv):Prop where
 len:l.length=g.nodes.length
 out:∀i b ws,At g i b ws->PX s b=ZY->au l i=Z_ 0
 le:∀i j,au l i=Z_ j->j<=k
 ext:∀i b ws j,At g i b ws->au l i=Z_ j->au (gQ s g l) i=Z_ j
 new:∀i b ws v,At g i b ws->au l i=ZZ->au (gQ s g l) i=Z_ v->v=k+1
def Ll{l:Lv}{i j:Nat}(h:au l i=Z_ j):i<l.length:=by
 by_cases a:i<l.length
 .exact a
 .unfold au at h;rw[aI,cv (by lia)]at h;cases h
def Dm{s}{g:Sg}(hm:kW s g){i:Nat}(h:i<g.nodes.length):∃b ws,At g i b ws:=⟨_,_,aj h,aj (by rwa[hm.len])⟩
def Aj{s}{g:Sg}(hm:kW s g)(l:Lv):(gQ s g l).length=g.nodes.length:=by unfold gQ Vberaf.round;rw[ah,iF,hm.len];lia
def JS.next{s g}{k:Nat}{l}(hm:kW s g)(h:JS s g k l):JS s g (k+1) (gQ s g l):=by
 have u:=Aj hm l;have ext':∀i j,au l i=Z_ j->au (gQ s g l) i=Z_ j:=λi j c=>by obtain⟨b,d,a⟩:=Dm hm (i:=i) (by rw[<-h.len];exact Ll c);exact h.ext i b d j a c
 have q:∀i j,au (gQ s g l) i=Z_ j->j<=k+1:=λi j c=>by
  obtain⟨b,d,a⟩:=Dm hm (i:=i) (by rw[<-u];exact Ll c);cases f:au l i with
  |none=>rw[h.new i b d j a f c];exact aN _
  |some x=>have:=ext' i x f;rw[c]at this;cases this;have:=h.le i j f;lia
 have m:∀i b d w n,At g i b d->w∈d->bh (gQ s g l) w.2=Z_ n->bh l w.2=ZZ->k+1<=n:=by
  intro i b d w n a hw o r;obtain⟨B,t,e⟩:=UP (kG.mp r);have C:=(hm.a2h d (aJ a.nw) w hw).2 B t;obtain⟨I,D,E⟩:=Dm hm C;cases f:au (gQ s g l) B with
  |none=>
   exfalso;have:xa (gQ s g l) w.2=ZY:=by
    cases J:xa (gQ s g l) w.2 with
    |true=>rfl
    |false=>rw[kG.mpr J]at o;cases o
   unfold xa at this;rw[cb]at this;have:=this B t;rw[f]at this;cases this
  |some x=>have:=h.new B I D x E e f;subst this;exact FT o t f
 refine⟨u,λi b d a p=>by rw[lq a,i0p p],q,λi b d j a c=>?_,λi b d v a r F=>?_⟩
 .rw[lq a]at c ⊢;by_cases p:PX s b=ZY
  .rw[i0p p]at c ⊢;exact c
  .rw[i0n p]at c ⊢;obtain⟨n,rfl,⟨w,hw,o⟩,y⟩:=nu c;refine Ws ⟨w,hw,xg ext' o⟩ λG z H A=>?_;cases f:bh l G.2 with
   |none=>have:=m i b d G H a z A f;have hj':n+1<=k+1:=q i (n+1) (by rwa[lq a,i0n p]);lia
   |some x=>have:=xg ext' f;rw[A]at this;cases this;exact y G z H f
 .rw[lq a]at r F;by_cases p:PX s b=ZY
  .rw[i0p p]at r;cases r
  .rw[i0n p]at r F;obtain⟨n,rfl,⟨w,hw,o⟩,_⟩:=nu F;have h1:=m i b d w n a hw o (EH r w hw);have h2:=zO q o;lia
def IP{s g}{i:Nat}{b ws}(h:At g i b ws):au (Gm s g) i=if PX s b=ZY then Z_ 0 else ZZ:=by unfold au Gm;rw[aI,aR,h.nb];rfl
nonrec def UQ{s g}(hm:kW s g):JS s g 0 (Gm s g):=by
 have l:(Gm s g).length=g.nodes.length:=by simp[Gm]
 have d:∀i j,au (Gm s g) i=Z_ j->j<=0:=λi j a=>by
  obtain⟨b,h,c⟩:=Dm hm (i:=i) (by rw[<-l];exact Ll a);rw[IP c]at a;split at a
  .cases a;exact aN _
  .cases a
 refine⟨l,λi b h c f=>by rw[IP c,i0p f],d,λi b h j c a=>?_,λi b h v c k m=>?_⟩
 .have:=d i j a;have e:j=0:=by lia
  subst e;rw[IP c]at a;split at a
  .rename_i f;rw[lq c,i0p f]
  .cases a
 .rw[IP c]at k;split at k
  .cases k
  .rename_i f;rw[lq c,i0n f]at m;obtain⟨n,rfl,⟨w,hw,o⟩,_⟩:=nu m;have:=zO d o;lia
def Oc{l:Lv}{i j k:Nat}(a:i<l.length):au (l.set i (Z_ k)) j=if i=j then Z_ k else au l j:=by
 unfold au;rw[aI,aI,List.getElem?_set];by_cases e:i=j
 .subst e;simp[a]
 .simp[e]
def EI(k:Nat):∀(a:List Nat) (l:Lv) (j:Nat),(∀i∈a,i<l.length)->au (kP l a k) j=if j∈a then Z_ k else au l j
 |[],l,j,_=>by simp[kP]
 |i::a,l,j,h=>by
  have e:kP l (i::a) k=kP (l.set i (Z_ k)) a k:=rfl;rw[e,EI k a _ j (λx c=>by rw[d4];exact h x (by simp[c])),Oc (h i (by simp))];by_cases h1:j∈a
  .simp[h1]
  .by_cases b:i=j
   .simp[b]
   .simp[h1,b,aG b]
nonrec def Su{s:ae}{g:Sg}{l:Lv}{i:Nat}{b:List (List Nat)}{ws:List (Nat×List Nat)}(j:At g i b ws):i∈gP g l↔au l i=ZZ/\BZ l ws≠ZZ:=by
 unfold gP;rw[dz];have a:(ws.any λw=>xa l w.2)=ZY↔BZ l ws≠ZZ:=by
  rw[cx];constructor
  .rintro⟨w,hw,c⟩ h;rw[kG.mp (EH h w hw)]at c;cases c
  .intro h;cases k:BZ l ws with
   |none=>exact absurd k h
   |some v=>
    obtain⟨n,_,⟨w,hw,d⟩,_⟩:=nu k;refine⟨w,hw,?_⟩;cases c:xa l w.2 with
    |true=>rfl
    |false=>rw[kG.mpr c]at d;cases d
 constructor
 .rintro⟨x,m,e⟩;split at e
  .rename_i f;cases az e;have d:=dJ.mp m;have:x.1=ws:=az (d.symm.trans j.nw);unfold xc at f;rw[a_,this]at f;exact⟨by simpa using f.1,a.mp f.2⟩
  .cases e
 .rintro⟨h1,o⟩;refine⟨(ws,i),dJ.mpr j.nw,?_⟩;rw[i0p];unfold xc;rw[a_];exact⟨by simp[h1],a.mpr o⟩
def rQ{s:ae}{g:Sg}{k:Nat}{l:Lv}(hm:kW s g)(h:JS s g k l):kP l (gP g l) (k+1)=gQ s g l:=by
 have q:=Aj hm l;refine PY (by rw[xf,h.len,q]) λi o=>?_;rw[xf,h.len]at o;obtain⟨b,f,c⟩:=Dm hm o;have n:=Su (s:=s) (l:=l) c;rw[EI _ _ _ _ λj r=>by rw[h.len,<-hm.len];exact (vM r).1];cases a:au l i with
 |some j=>rw[i0n (λz=>by rw[(n.mp z).1]at a;cases a),h.ext i b f j c a]
 |none=>
  by_cases m:BZ l f=ZZ
  .rw[i0n (λz=>(n.mp z).2 m)];have d:¬PX s b=ZY:=λd=>by rw[h.out i b f c d]at a;cases a
   rw[lq c,i0n d,m]
  .rw[i0p (n.mpr ⟨a,m⟩)];have d:¬PX s b=ZY:=λd=>by rw[h.out i b f c d]at a;cases a
   cases p:BZ l f with
   |none=>exact absurd p m
   |some v=>
    have e:au (gQ s g l) i=Z_ v:=by rw[lq c,i0n d,p]
    rw[e,h.new i b f v c a e]
def qt{s g}{k:Nat}{l}(hm:kW s g)(h:JS s g k l):(gP g l).isEmpty=ZY↔gQ s g l=l:=by
 constructor
 .intro c;have:gP g l=[]:=by simpa using c
  rw[<-rQ hm h,this];rfl
 .intro e;cases a:gP g l with
  |nil=>rfl
  |cons i is=>
   exfalso;obtain⟨h1,d⟩:=vM (g:=g) (l:=l) (i:=i) (by rw[a];simp);have:=rQ hm h;rw[e]at this;have b:=EI (k+1) (gP g l) l i λj f=>by rw[h.len,<-hm.len];exact (vM f).1
   rw[this,d,i0p (by rw[a];simp)]at b;cases b
def MD{s g}(hm:kW s g):∀(n:Nat) (k f b:Nat) (l:Lv),nones l<=n->JS s g k l->nones l<f->nones l<b->uh (a9 s) g f l=iter g b k l:=by
 intro n;induction n with
 |zero=>
  intro k f b l i h h1 j;obtain⟨f,rfl⟩:∃x,f=x+1:=⟨f-1,by lia⟩
  obtain⟨b,rfl⟩:∃x,b=x+1:=⟨b-1,by lia⟩
  have a:(gP g l).isEmpty=ZY:=by
   cases m:(gP g l).isEmpty with
   |true=>rfl
   |false=>have:=Dl (k:=k+1) (by rw[h.len,hm.len];exact aN _) m;lia
  unfold uh iter;simp only;rw[i0p a,i0p ((qt hm h).mp a)]
 |succ n o=>
  intro k f b l i h h1 j;obtain⟨f,rfl⟩:∃x,f=x+1:=⟨f-1,by lia⟩
  obtain⟨b,rfl⟩:∃x,b=x+1:=⟨b-1,by lia⟩
  unfold uh iter;simp only;cases a:(gP g l).isEmpty with
  |true=>rw[i0p rfl,i0p ((qt hm h).mp a)]
  |false=>
   have c:¬gQ s g l=l:=λe=>by rw[(qt hm h).mpr e]at a;cases a
   rw[i0n aB,i0n c,rQ hm h];have d:=Dl (k:=k+1) (by rw[h.len,hm.len];exact aN _) a;rw[rQ hm h]at d;exact o (k+1) f b (gQ s g l) (by lia) (h.next hm) (by lia) (by lia)
def Ak{s g}(hm:kW s g):iR s g=cc (a9 s) g:=by
 have m:=UQ hm;have d:gQ s g (g.nodes.map λ_=>ZZ)=Gm s g:=by
  refine PY (by rw[Aj hm];simp[Gm]) λi a=>?_;rw[Aj hm]at a;obtain⟨b,k,f⟩:=Dm hm a;rw[lq f,IP f];have:BZ (g.nodes.map λ_=>ZZ) k=ZZ:=by
   cases r:BZ (g.nodes.map λ_=>ZZ) k with
   |none=>rfl
   |some v=>
    exfalso;obtain⟨n,_,⟨w,hw,t⟩,_⟩:=nu r;obtain⟨⟨j,_,e⟩,_⟩:=xb (hm.a2h k (aJ f.nw) w hw).1 t;unfold au at e;rw[aI,aR]at e;cases l:g.nodes[j]? with
    |none=>rw[l]at e;cases e
    |some _=>rw[l]at e;cases e
  rw[this]
 unfold cc iR;have u:uh (a9 s) g (g.nodes.length+1) (g.nodes.map λ_=>ZZ)=if gQ s g (g.nodes.map λ_=>ZZ)=(g.nodes.map λ_=>ZZ) then (g.nodes.map λ_=>ZZ) else uh (a9 s) g g.nodes.length (gQ s g (g.nodes.map λ_=>ZZ)):=rfl
 rw[u,d];by_cases c:Gm s g=g.nodes.map λ_=>ZZ
 .rw[i0p c];have x:(gP g (Gm s g)).isEmpty=ZY:=(qt hm m).mpr (by rw[c,d,c]);unfold iter;rw[i0p x,c]
 .rw[i0n c];have p:nones (Gm s g)<g.nodes.length:=by
   have hle:=IL (Gm s g);have q:(Gm s g).length=g.nodes.length:=m.len;by_cases l:nones (Gm s g)=g.nodes.length
   .exfalso;apply c;have h:∀o∈Gm s g,o.isNone=ZY:=DT.mp (List.filter_sublist.eq_of_length (by rwa[q]));refine PY (by simp[q]) λi a=>?_;obtain⟨b,k,f⟩:=Dm hm (i:=i) (by rwa[<-q]);have h1:au (Gm s g) i=ZZ:=by
     unfold au;rw[aI,aj a];have:=h _ (fu a);simpa using this
    rw[h1];unfold au;rw[aI,aR,f.nb];rfl
   .lia
  exact (MD hm _ 0 _ _ _ (aN _) m p (by lia)).symm
def Od{s g}(hm:kW s g):∀(f k:Nat) (l:Lv),nones l<f->JS s g k l->∃d,JS s g d (iter g f k l)/\gQ s g (iter g f k l)=iter g f k l
 |0,k,l,h,_=>by lia
 |f+1,k,l,h,a=>by
  unfold iter;cases b:(gP g l).isEmpty with
  |true=>rw[i0p rfl];exact⟨k,a,(qt hm a).mp b⟩
  |false=>rw[i0n aB,rQ hm a];have c:=Dl (k:=k+1) (by rw[a.len,hm.len];exact aN _) b;rw[rQ hm a]at c;exact Od hm f (k+1) (gQ s g l) (by lia) (a.next hm)
def B_{s g}(hm:kW s g):∃k,JS s g k (iR s g)/\gQ s g (iR s g)=iR s g:=Od hm _ 0 _ (by have:=IL (Gm s g);have e:(Gm s g).length=g.nodes.length:=(UQ hm).len;lia) (UQ hm)
def Wt{s g}(hm:kW s g){i k:Nat}(d:au (iR s g) i=Z_ k):My g (iR s g) i (k:Int)=cV g (iR s g) i:=by
 obtain⟨_,m,o⟩:=B_ hm;obtain⟨b,f,h⟩:=Dm hm (i:=i) (by rw[<-m.len];exact Ll d);unfold My cV;rw[d,aI,h.nw];simp only[qD];cases k with
 |zero=>
  simp only;rw[kZ];intro w hw;unfold uS;cases bh (iR s g) w.2 with
  |none=>simp
  |some n=>simp
 |succ k=>
  simp only;have c:au (gQ s g (iR s g)) i=Z_ (k+1):=by rwa[o]
  rw[lq h]at c;split at c
  .cases c
  .obtain⟨n,e,j,a⟩:=nu c;have e:n=k:=by lia
   subst e;have l:∀w∈f,uS (iR s g) w.2 ((n+1:Nat):Int)=((bh (iR s g) w.2).any λx=>decide (x<=n)):=by
    intro w hw;unfold uS;cases p:bh (iR s g) w.2 with
    |none=>rfl
    |some x=>have:=a w hw x p;simp only[Option.any_some];rw[bW];simp only[decide_eq_true_eq];lia
   clear a c h j;induction f with
   |nil=>rfl
   |cons w f q=>
    rw[eL,eL,l w (by simp)];split
    .rfl
    .exact q λw hw=>l w (by simp[hw])
structure Sv(s:ae)(b0:List (List Nat))(g:Sg)(at_:Nat):Prop where
 nx:g.next.length=at_
 a2h:∀ws∈g.next,∀w∈ws,w.2≠[]/\∀i∈w.2,i<g.nodes.length
 nodes:Ah s b0 g
nonrec def Wu{s}{room:Nat}{g b}{n:Nat}(h:(cP (a9 s) room g b).2=Z_ n):n<(cP (a9 s) room g b).1.nodes.length:=by
 unfold cP at h ⊢;cases a:tD (a9 s) g b with
 |some i=>
  rw[a]at h;simp only at h ⊢;cases h;unfold tD at a;simp only at a;split at a
  .rename_i c;cases a;exact c
  .cases a
 |none=>
  rw[a]at h;simp only at h ⊢;split at h
  .rename_i c;rw[i0p c];cases h;simp
  .cases h
def Oe{s}{room:Nat}:∀(a:List (List (List Nat))) (g:Sg) (n:Nat),Z_ n∈(kO s room g a).2->n<(kO s room g a).1.nodes.length
 |[],g,n,h=>by simp[kO]at h
 |b::r,g,n,h=>by
  simp only[kO]at h ⊢;rcases aL.mp h with h|h
  .exact bV (Wu h.symm) (Ai s room r _)
  .exact Oe r _ n h
def FU:∀{l:List (Option Nat)} {r:List Nat} {n:Nat},gY l=Z_ r->n∈r->Z_ n∈l
 |[],r,n,h,hn=>by cases h;cases hn
 |o::l,r,n,h,hn=>by
  simp only[gY]at h;cases o with
  |none=>cases h
  |some m=>
   cases a:gY l with
   |none=>rw[a]at h;cases h
   |some t=>
    rw[a]at h;cases h;rcases aL.mp hn with e|hn
    .subst e;simp
    .exact ba _ (FU a hn)
def zP:∀{l:List (Option Nat)} {r:List Nat},gY l=Z_ r->r.length=l.length
 |[],r,h=>by cases h;rfl
 |o::l,r,h=>by
  simp only[gY]at h;cases o with
  |none=>cases h
  |some m=>
   cases a:gY l with
   |none=>rw[a]at h;cases h
   |some t=>rw[a]at h;cases h;simp[zP a]
nonrec def Sw{s}{room:Nat}{b g}(n:Nat):∀w∈(dB s room b g n).2,w.2≠[]/\∀i∈w.2,i<(dB s room b g n).1.nodes.length:=by
 induction n with
 |zero=>intro w hw;cases hw
 |succ n j=>
  rw[iC];unfold FS;simp only;generalize iX (bE (a9 s) (ay s) b n)=L;have grow:=Ai s room L (dB s room b g n).1;have a:∀w∈(dB s room b g n).2,w.2≠[]/\∀i∈w.2,i<(kO s room (dB s room b g n).1 L).1.nodes.length:=λw hw=>⟨(j w hw).1,λi d=>bV ((j w hw).2 i d) grow⟩
  intro w hw;cases c:gY (kO s room (dB s room b g n).1 L).2 with
  |none=>rw[c]at hw;exact a w hw
  |some r=>
   rw[c]at hw;simp only at hw;split at hw
   .exact a w hw
   .rename_i f;rcases aX.mp hw with h|h
    .exact a w h
    .rw[bb]at h;subst h;refine⟨λe=>?_,λi d=>Oe L _ i (FU c d)⟩;have:=zP c;rw[Dh]at this;simp only at e;rw[e]at this;exact f (by cases L with|nil=>rfl|cons _ _=>simp at this)
def Sv.step{s}{room:Nat}{c b:List (List Nat)}{g:Sg}{at_:Nat}(f:mq s)(h:Sv s c g at_)(j:b∈g.nodes)(k:c.length<=1000):Sv s c (vL s room b g) (at_+1):=by
 have e:=(lp (s:=s) (room:=room) (b:=b) (x:=b) (g:=g) s.puzzle.doings.length).2.2;have l:=ub s room b g s.puzzle.doings.length;refine⟨?_,λd a w hw=>?_,BY f h.nodes j k⟩
 .unfold vL;show ((dB s room b g s.puzzle.doings.length).1.next++[_]).length=_;rw[aK,e,h.nx];rfl
 .have a:d∈(dB s room b g s.puzzle.doings.length).1.next++[(dB s room b g s.puzzle.doings.length).2]:=a
  rw[e]at a;rcases aX.mp a with h1|h1
  .exact⟨(h.a2h d h1 w hw).1,λi m=>bV ((h.a2h d h1 w hw).2 i m) l⟩
  .rw[bb]at h1;subst h1;exact Sw _ w hw
def IQ{s}{room:Nat}{c:List (List Nat)}(d:mq s)(e:c.length<=1000):∀(f at_:Nat) (g:Sg),Sv s c g at_->at_<=g.nodes.length->g.nodes.length<=room->f+at_=room+1 ->
  ∃n,Sv s c (cC (a9 s) (ay s) room f at_ g) n/\n=(cC (a9 s) (ay s) room f at_ g).nodes.length/\n<=room
 |0,at_,g,h,h1,i,j=>by lia
 |f+1,at_,g,h,h1,i,j=>by
  cases a:g.nodes[at_]? with
  |none=>rw[hZ a];have:g.nodes.length<=at_:=List.getElem?_eq_none_iff.mp a;exact⟨at_,h,by lia,by lia⟩
  |some b=>rw[gI a];have hlt:=(ax.mp a).1;have gr:=ub s room b g s.puzzle.doings.length;obtain⟨k,_⟩:=rG (s:=s) (b:=b) i s.puzzle.doings.length;refine IQ d e f (at_+1) _ (h.step d (aJ a) e) ?_ k (by lia);show at_+1<=(dB s room b g s.puzzle.doings.length).1.nodes.length;lia
def xh{s}{room:Nat}{b}(d:mq s)(c:YJ s b)(e:∀v∈b,nB s v)(f:1<=room):kW s (bC s room b)/\(bC s room b).nodes.length<=room/\Ah s b (bC s room b):=by
 have g:Sv s b {nodes:=[b]} 0:=⟨rfl,by simp,⟨λx a=>by
  have:x=b:=by simpa using a
  subst this;exact⟨c,e,aN _⟩⟩⟩
 obtain⟨n,h1,h,h3⟩:=IQ (room:=room) d c.2.2 (room+1) 0 {nodes:=[b]} g (gj _) (by simpa using f) rfl;refine⟨⟨h1.nx.trans h,h1.a2h,λx a=>(h1.nodes.ok x a).2.1⟩,?_,h1.nodes⟩;show (cC (a9 s) (ay s) room (room+1) 0 {nodes:=[b]}).nodes.length<=room;lia
structure rj(s:ae)(U:List (List Nat))(room:Nat)(b:List (List Nat)):Prop where
 bok:YJ s b
 vok:∀v∈b,nB s v
 r1:1<=room
 r2:room<=100
 inU:∀x∈(bC s room b).nodes,∀v∈x,v∈U
def pG{s p U B b m Q}{room:Nat}(c:i_ s p U B m)(e:rj s U room b)(q:∀m' ch d,i_ s p U B m'->m ch=ZZ->m' ch=Z_ (.ins cK (jA room (bC s room b) d))->uY (λa=>a=B.b2\/a=B.b3\/a=ch) m m'->Q (.ref ch) m'):a1S [.ref B.q,rP b,.int (room:Int)] m Q:=⟨s,p,U,B,b,room,rfl,c,e.bok,e.vok,e.r1,e.r2,e.inU,q⟩
def rj.map{s U room b}(g:mq s)(e:rj s U room b):kW s (bC s room b):=(xh g e.bok e.vok e.r1).1
def oB{s p B ch a m Q}{room:Nat}{g}(b:mq s)(c:eP s p B m)(h:m ch=Z_ (.ins cK (jA room g a)))(hm:kW s g)(q:Q (.lst ((cc (a9 s) g).map fX)) m):a1Z [.ref B.q,.ref ch] m Q:=⟨s,p,B,ch,a,room,g,rfl,b,c,h,hm,by rwa[Ak hm]⟩
def kg{s}{g:Sg}(hm:kW s g):(cc (a9 s) g).length=g.nodes.length:=by obtain⟨_,h,_⟩:=B_ hm;rw[<-Ak hm];exact h.len
def pH{s}{room:Nat}{b}:0<(bC s room b).nodes.length:=AC (mG (x:=b) (room+1) 0 {nodes:=[b]} (by simp))
nonrec def EJ{s p U B m m' ch}(c:i_ s p U B m)(b:m ch=ZZ)(d:i_ s p U B m')(f:uY (λa=>a=B.b2\/a=B.b3\/a=ch) m m'):Mv B m (jd m' ch)/\bT s U B (jd m' ch)/\Cj (jd m' ch) m':=by
 have n:=c.ca.noN b;refine⟨λa h1 g=>?_,d.ca.congr (gh (aG n.1)) (gh (aG n.2)),yH m' ch⟩;unfold jd;split
 .rename_i e;subst e;exact b.symm
 .rename_i e;refine f a ?_;rintro (z|z|z)
  .exact h1 z
  .exact g z
  .exact e z
inductive a6i:Prop|mk s p U B b room:A'=[.ref B.q,rP b,.int ((room:Nat):Int)]->i_ s p U B B'->rj s U room b->(∀a,Mv B B' a->bT s U B a->D' (fX (nE (a9 s) (ay s) room b)) a)->a6i
def JT:dR (C_ a1S a1Z) wC a6i:=by
 intro ds m Q h;obtain⟨s,p,U,B,b,room,rfl,c,e,q⟩:=h;dsimp[C_,wC];refine pG c e λm' ch c3 g d i k=>?_;obtain⟨l,n,j⟩:=EJ c d g k;have q:=q _ l n;unfold nE at q;simp only at q;have hm:=e.map c.good;dsimp[aW _ i,Ag];refine dY (λh=>?_) λh=>?_
 .rw[i0p h]at q;exact .sub j q
 .rw[i0n (by rw[show (Vberaf.explore (a9 s) (ay s) room b).over=ZX from h];exact aB)]at q;refine oB c.good g.pl i hm ?_;have f:0<(cc (a9 s) (bC s room b)).length:=by rw[kg hm];exact pH
  have a:=uR f;simp only[Int.natCast_zero]at a;have a:tL ((cc (a9 s) (bC s room b)).map fX) 0=_:=a;dsimp[a];exact .sub j q
inductive mH:Prop|mk s p U B room:A'=[.ref B.q,.lst [.int ((room:Nat):Int)]]->i_ s p U B B'->rj s U room p.belief->(∀a,Mv B B' a->bT s U B a->D' (.lst (dI (if (bC s room p.belief).over=ZY then [-6] else [DM (au (cc (a9 s) (bC s room p.belief)) 0)]))) a)->mH
def Gq:dR (zt a1S a1Z) sP mH:=by
 intro ds m Q h;obtain⟨s,p,U,B,room,rfl,c,e,q⟩:=h;dsimp[zt,sP,aW _ c.pl.q,gX,gF];refine pG c e λm' ch c3 i b j l=>?_;obtain⟨n,o,d⟩:=EJ c b i l;have q:=q _ n o;have hm:=e.map c.good;dsimp[aW _ j,Ag];refine dY (λh=>?_) λh=>?_
 .rw[i0p h]at q;exact .sub d q
 .rw[i0n (by rw[h];exact aB)]at q;refine oB c.good i.pl j hm ?_;have f:0<(cc (a9 s) (bC s room p.belief)).length:=by rw[kg hm];exact pH
  have g:tL ((cc (a9 s) (bC s room p.belief)).map fX) 0=_:=uR f;dsimp[g];cases a:au (cc (a9 s) (bC s room p.belief)) 0 with
  |none=>rw[a]at q;dsimp[fX];exact .sub d q
  |some k=>rw[a]at q;dsimp[fX];exact .sub d q
inductive pX:Prop|mk s p U B room:A'=[.ref B.q,.lst [.int ((room:Nat):Int)]]->i_ s p U B B'->rj s U room p.belief->(∀c,Mv B B' c->bT s U B c->D' (.lst (dI [((bC s room p.belief).nodes.length:Int),Vberaf.bit (bC s room p.belief).over,(((bC s room p.belief).next.map λe=>e.length).foldl (λa b=>a+b) 0:Nat)])) c)->pX
def Of:∀(l:List (List (Nat×List Nat))) (n:Nat),((l.map λe=>e.length).foldl (λa b=>a+b) n:Nat)=n+(l.map λe=>e.length).sum
 |[],n=>by simp
 |x::l,n=>by rw[aQ,d5,Of l,yb];lia
def UR(l:List Nat):(l.map λ(n:Nat)=>(n:Int)).sum=((l.sum:Nat):Int):=by
 induction l with
 |nil=>rfl
 |cons x l a=>rw[aQ,yb,yb,a];lia
def JU:dR (D2 a1S) wJ pX:=by
 intro ds m Q h;obtain⟨s,p,U,B,room,rfl,c,e,q⟩:=h;dsimp[D2,wJ,aW _ c.pl.q,gX,gF];refine pG c e λn ch c3 r k l t=>?_;obtain⟨u,v,o⟩:=EJ c k r t;have q:=q _ u v;generalize bC s room p.belief=g at q l;dsimp[ku,cS,aW _ l,Mx,f_,kS];intro a w;refine QZ g.next qr (λf=>Z_ (.int (f.length:Int))) rfl (λj=>∃d,j=bQ n a (.lst d)) ⟨_,rfl⟩ (λn d ⟨x,e⟩=>⟨d,by rw[e,cy]⟩) (λ_ _=>trivial) (λf hws j d y i X Y z hY=>?_) λj ⟨x,e⟩ i=>?_
 .dsimp[qr,ib,ah];exact z _ j rfl y i
 .subst e;have A:g.next.filterMap (λf=>Z_ (D.int (f.length:Int)))=dI (g.next.map λf=>(f.length:Int)):=by unfold dI;rw[bq];exact rh λ_ _=>rfl
  have C:(g.next.map λf=>(f.length:Int)).sum=(((g.next.map λe=>e.length).foldl (λa b=>a+b) 0:Nat):Int):=by rw[Of,n9,<-UR,bq];rfl
  dsimp[A,Es,ia w,aW _ l,BX,Ag,ah,C];refine dY (λh=>?_) λh=>?_
  .rw[h]at q;exact .sub o q
  .rw[h]at q;exact .sub o q
def Hi(g:Sg)(l:Lv):List Int:=match cV g l 0 with
 |none=>[0]
 |some e=>[1,(e.1:Int)]
inductive oC:Prop|mk s p U B room:A'=[.ref B.q,.lst [.int ((room:Nat):Int)]]->i_ s p U B B'->rj s U room p.belief->(∀a,Mv B B' a->bT s U B a->D' (.lst (dI (if (bC s room p.belief).over=ZY then [-6] else Hi (bC s room p.belief) (cc (a9 s) (bC s room p.belief))))) a)->oC
def Wv{s g}(hm:kW s g):a0d g (cc (a9 s) g):=⟨λa h w hw=>by obtain⟨h1,b⟩:=hm.a2h a h w hw;exact⟨h1,λi c=>by rw[kg hm];exact b i c⟩⟩
def C0{s ch a}{room:Nat}{g:Sg}{i k:Nat}{m Q}(hm:kW s g)(h:m ch=Z_ (.ins cK (jA room g a)))(b:i<g.nodes.length)(c:au (cc (a9 s) g) i=Z_ k)(q:Q (PU (cV g (cc (a9 s) g) i)) m):a4y [.ref ch,.lst ((cc (a9 s) g).map fX),.int (i:Int)] m Q:=by refine⟨ch,a,room,g,_,i,k,rfl,h,by rwa[hm.len],by rwa[kg hm],c,Wv hm,?_⟩;have e:=Ak hm;have:=Wt hm (i:=i) (k:=k) (by rwa[e]);rw[e]at this;rwa[this]
def Sx{s g}{i k:Nat}(hm:kW s g)(a:au (cc (a9 s) g) i=Z_ (k+1)):∃e,cV g (cc (a9 s) g) i=Z_ e:=by
 have e:=Ak hm;rw[<-e]at a ⊢;obtain⟨_,h,j⟩:=B_ hm;obtain⟨b,l,d⟩:=Dm hm (i:=i) (by rw[<-h.len];exact Ll a);have c:au (gQ s g (iR s g)) i=Z_ (k+1):=by rwa[j]
 rw[lq d]at c;split at c
 .cases c
 .obtain⟨n,e,⟨w,hw,m⟩,_⟩:=nu c;have e:n=k:=by lia
  subst e;unfold cV;rw[a,aI,d.nw];simp only[qD];cases f:l.find? λe=>(bh (iR s g) e.2).any λx=>decide (x<=n) with
  |some e=>exact⟨e,rfl⟩
  |none=>rw[kZ]at f;have:=f w hw;rw[m]at this;simp at this
def IR:dR (Bh a1S a1Z a4y) uJ oC:=by
 intro ds m Q h;obtain⟨s,p,U,B,room,rfl,c,e,q⟩:=h;dsimp[Bh,uJ,aW _ c.pl.q,gX,gF];refine pG c e λm' ch c3 l d f n=>?_;obtain⟨o,r,b⟩:=EJ c d l n;have q:=q _ o r;have hm:=e.map c.good;dsimp[aW _ f,Ag];refine dY (λh=>?_) λh=>?_
 .rw[i0p h]at q;exact .sub b q
 .rw[i0n (by rw[h];exact aB)]at q;refine oB c.good l.pl f hm ?_;have g:0<(cc (a9 s) (bC s room p.belief)).length:=by rw[kg hm];exact pH
  have j:tL ((cc (a9 s) (bC s room p.belief)).map fX) 0=_:=uR g;dsimp[j];cases a:au (cc (a9 s) (bC s room p.belief)) 0 with
  |none=>unfold Hi cV at q;rw[a]at q;dsimp[fX];exact .sub b q
  |some k=>
   dsimp[fX,a];cases k with
   |zero=>unfold Hi cV at q;rw[a]at q;exact .sub b q
   |succ k=>
    obtain⟨w,hw⟩:=Sx hm a;unfold Hi at q;rw[hw]at q;have t:decide (((k+1:Nat):Int)=0)=ZX:=by simp;lia
    rw[t];simp only[bR,if_false];refine C0 (i:=0) (k:=k+1) hm f pH a ?_;rw[hw];dsimp[PU,ED,gF];exact .sub b q
def R6(l:List Nat):dI (Vberaf.ints l)=dN l:=by rw[FO];rfl
def Al(l:List Nat):dI (di (Vberaf.ints l))=.int ((dN l).length:Int)::dN l:=by unfold di;rw[<-R6];simp[dI]
inductive oE:Prop|mk s p U B x:A'=[.ref B.q,x]->i_ s p U B B'->p.now∈U->nB s p.now->(∀a,Mv B B' a->bT s U B a->D' (.lst (dI (di (Vberaf.ints (ay s p.now))))) a)->oE
def IS:dR (Bf a4Z a4a) uH oE:=by
 intro ds m Q h;obtain⟨s,p,U,B,x,rfl,c,a,b,q⟩:=h;dsimp[Bf,uH,aW _ c.pl.q,nr];refine BS c (FP a) b.len λd h1 e=>?_;refine⟨_,_,rfl,Er,?_,?_⟩
 .rw[fF];have:=Dg s p.now;have:=c.good.vars;lia
 .rw[<-Al];exact .ret (q d h1 e)
inductive lK:Prop|mk s p B x:A'=[.ref B.q,x]->eP s p B B'->p.now.length<=1000->D' (.lst (dI (di (Vberaf.ints p.now)))) B'->lK
def EK:dR (xQ a4a) qU lK:=by
 intro ds m Q h;obtain⟨s,p,B,x,rfl,a,hl,q⟩:=h;dsimp[xQ,qU,aW _ a.q,nr];refine⟨_,_,rfl,Er,?_,?_⟩
 .rw[fF];lia
 .rw[<-Al];exact .ret q
inductive mI:Prop|mk s p B x:A'=[.ref B.q,x]->eP s p B B'->D' (.lst (dI [(p.purse:Int)])) B'->mI
def Gr:dR zv sW mI:=by intro ds m Q h;obtain⟨s,p,B,x,rfl,a,q⟩:=h;dsimp[zv,sW,aW _ a.q,Iy];exact .ret q
inductive lL:Prop|mk s p B x:A'=[.ref B.q,x]->eP s p B B'->(∀v∈p.belief,v.length<=100)->p.belief.length<=1000->D' (.lst (dI ((p.belief.length:Int)::p.belief.flatMap Vberaf.ints))) B'->lL
def Og{b:List (List Nat)}{f:List Nat->List Int}{n:Nat}(h:∀v∈b,(f v).length<=n):(b.flatMap f).length<=n*b.length:=by
 induction b with
 |nil=>simp
 |cons v b a=>rw[lR,aK,aZ];have:=a λw hw=>h w (by simp[hw]);have:=h v (by simp);rw[Nat.mul_add];lia
def EL:dR xO qR lL:=by
 intro ds m Q h;obtain⟨s,p,B,x,rfl,c,r,hl,q⟩:=h;dsimp[xO,qR,aW _ c.q,gX,rP,ah,dQ,cS];intro a e;have g:∀{l},(bQ m a (.lst l)) B.q=Z_ (.ins j_ (f9 B p)):=λ{l}=>by rw[ao];exact c.q;rintro rfl;rw[c.q]at e;cases e
 simp only[aW _ g,gX,rP,f_]
 let u:LI3:=λj σ i=>∃y,σ=[Z_ (.ref B.q),Z_ x,Z_ (.ref a),y]/\i=bQ m a (.lst (dI ((p.belief.length:Int)::(p.belief.take j).flatMap Vberaf.ints)))
 refine⟨u,⟨ZZ,rfl,rfl⟩,λ_ _ _ _ _=>trivial,?_,?_⟩
 .rintro j d σ i z ⟨y,rfl,rfl⟩;obtain⟨v,t,rfl⟩:=VG z;have hvl:=r v (aJ t);have k:=Og (b:=p.belief.take j) (f:=Vberaf.ints) (n:=100) λw hw=>by
   have:=r w (rT hw);simp[Vberaf.ints];exact this
  have o:(dI ((p.belief.length:Int)::(p.belief.take j).flatMap Vberaf.ints)).length+(dN v).length<1000000:=by
   rw[ke,fF,aZ];rw[eM]at k;have:min j p.belief.length<=1000:=by lia
   have:=Fi 100 this;lia
  dsimp[eV,o,cy];refine⟨_,rfl,?_⟩
  congr 2
  rw[eW t,fG,<-R6];simp[dI]
 .rintro σ i ⟨y,rfl,rfl⟩;rw[ah,cO];dsimp[];exact .new e q
def PZ(s:ae)(p:bM)(i:Nat):List Int:=match s.facts[i]? with
 |none=>[-3]
 |some x=>[(cZ (bB x) p.belief p.now p.purse:Int)]
inductive pY:Prop|mk s p B i:A'=[.ref B.q,.lst [.int ((i:Nat):Int)]]->mq s->eP s p B B'->Bo s p->D' (.lst (dI (PZ s p i))) B'->pY
def JV:dR (D1 a4u) wH pY:=by
 intro ds m Q h;obtain⟨s,p,B,i,rfl,g,a,b,q⟩:=h;dsimp[D1,wH,gF,aW _ a.q,iH,aW _ a.puz.z,qm,f7 a.puz.facts,ah];unfold PZ at q;refine dY (λh=>?_) λh=>?_
 .have h:s.facts.length<=i:=by simp at h;lia
  rw[cv h]at q;exact .ret q
 .have h:i<s.facts.length:=by simp at h;lia
  rw[aj h]at q;refine EB g a (aj h) b ?_;exact .ret q
def Am(s:ae)(p:bM)(i:Nat):bM×List Int:=match s.facts[i]? with
 |none=>(p,[-3])
 |some x=>
  let w:=cZ (bB x) p.belief p.now p.purse
  if w=1 then (p,[-5]) else if w=2 then (p,[-7]) else if w=3 then (p,[-8]) else if 200<=p.past.length then (p,[-4])
  else (IF p x i,[((d7 (bB x) p.belief).length:Int)])
inductive oF:Prop|mk s p U B i:A'=[.ref B.q,.lst [.int ((i:Nat):Int)]]->i_ s p U B B'->zL B->Bo s p->p.past.length<=1000->(∀a,i_ s (Am s p i).1 U B a->FQ B B' a->D' (.lst (dI (Am s p i).2)) a)->oF
def Sy{f:Vberaf.Fact rl}{b:List (List Nat)}{v:List Nat}{n:Nat}:cZ f b v n=0\/cZ f b v n=1\/cZ f b v n=2\/cZ f b v n=3:=by
 unfold cZ;split
 .simp
 .split
  .simp
  .split<;>simp
def US{f:Vberaf.Fact rl}{b v}{n:Nat}(h:cZ f b v n=0):f.price<=n:=by
 unfold cZ at h;split at h
 .cases h
 .split at h
  .cases h
  .split at h
   .cases h
   .lia
def IT:dR (Bi a4u a5P) uL oF:=by
 intro ds m Q h;obtain⟨s,p,U,B,i,rfl,c,t,o,k,q⟩:=h;have g:=c.pl;dsimp[Bi,uL,gF,aW _ g.q,iH,aW _ g.puz.z,qm,f7 g.puz.facts,ah];unfold Am at q;refine dY (λh=>?_) λh=>?_
 .have h:s.facts.length<=i:=by simp at h;lia
  rw[cv h]at q;exact .ret (q m c (FQ.refl B m))
 .have h:i<s.facts.length:=by simp at h;lia
  have l:=aj h;rw[l]at q;simp only at q;refine EB c.good g l o ?_;generalize hw:cZ (bB s.facts[i]) p.belief p.now p.purse=w at q;have j:=Sy (f:=bB s.facts[i]) (b:=p.belief) (v:=p.now) (n:=p.purse);rw[hw]at j;have a:nR=.mtup [.int 0,.int (-5),.int (-7),.int (-8)]:=rfl;rcases j with rfl|rfl|rfl|rfl
  .have d:(!decide (((0:Nat):Int)=0))=ZX:=rfl;dsimp[d,aW _ g.q,Ac,f7 g.past,ah];simp only[show ¬(0=1) by decide,show ¬(0=2) by decide,show ¬(0=3) by decide,if_false]at q;refine dY (λe=>?_) λe=>?_
   .have e:200<=p.past.length:=by simp at e;lia
    rw[i0p e]at q;exact .ret (q m c (FQ.refl B m))
   .have e:¬200<=p.past.length:=by simp at e;lia
    rw[i0n e]at q;refine⟨s,p,U,B,i,s.facts[i],rfl,c,t,l,o.bel,US hw,k,λu r x=>?_⟩;dsimp[aW _ r.pl.q,gX,rP,ah];exact .ret (q u r x)
  .have d:(!decide (((1:Nat):Int)=0))=ZY:=rfl;dsimp[d,a,show tL [D.int 0,.int (-5),.int (-7),.int (-8)] ((1:Nat):Int)=Z_ (.int (-5)) from d9 rfl];exact .ret (q m c (FQ.refl B m))
  .have d:(!decide (((2:Nat):Int)=0))=ZY:=rfl;dsimp[d,a,show tL [D.int 0,.int (-5),.int (-7),.int (-8)] ((2:Nat):Int)=Z_ (.int (-7)) from d9 rfl];exact .ret (q m c (FQ.refl B m))
  .have d:(!decide (((3:Nat):Int)=0))=ZY:=rfl;dsimp[d,a,show tL [D.int 0,.int (-5),.int (-7),.int (-8)] ((3:Nat):Int)=Z_ (.int (-8)) from d9 rfl];exact .ret (q m c (FQ.refl B m))
def An(s:ae)(p:bM)(i:Nat):bM×List Int:=if s.puzzle.doings.length<=i then (p,[-3]) else if 200<=p.past.length then (p,[-4]) else
 (Df s p i,[Vberaf.bit (bN (a9 s) i p.now).1,((Df s p i).belief.length:Int)])
inductive oG:Prop|mk s p U B i:A'=[.ref B.q,.lst [.int ((i:Nat):Int)]]->i_ s p U B B'->zL B->Bo s p->p.now∈p.belief->(∀v∈p.belief,v∈U)->p.belief.length<=1000->p.past.length<=1000->(∀a,i_ s (An s p i).1 U B a->FQ B B' a->D' (.lst (dI (An s p i).2)) a)->oG
def IU:dR (Be a5I) uF oG:=by
 intro ds m Q h;obtain⟨s,p,U,B,i,rfl,c,j,k,b,l,e,f,q⟩:=h;have d:=c.pl;dsimp[Be,uF,gF,aW _ d.q,iH,aW _ d.puz.z,vI,f7 d.puz.doings,ah];unfold An at q;refine dY (λh=>?_) λh=>?_
 .have h:s.puzzle.doings.length<=i:=by simp at h;lia
  rw[i0p h]at q;exact .ret (q m c (FQ.refl B m))
 .have h:¬s.puzzle.doings.length<=i:=by simp at h;lia
  rw[i0n h]at q;dsimp[aW _ d.q,Ac,f7 d.past,ah];refine dY (λa=>?_) λa=>?_
  .have a:200<=p.past.length:=by simp at a;lia
   rw[i0p a]at q;exact .ret (q m c (FQ.refl B m))
  .have a:¬200<=p.past.length:=by simp at a;lia
   rw[i0n a]at q;refine⟨s,p,U,B,i,rfl,c,j,by lia,k,b,l,e,f,λn g o=>?_⟩;dsimp[aW _ g.pl.q,gX,rP,ah];exact .ret (q n g o)
inductive oH:Prop|mk s p B x:A'=[.ref B.q,x]->eP s p B B'->(∀e∈p.past,e.length<=100)->p.past.length<=1000->D' (.lst (dI ((p.past.length:Int)::p.past.flatMap λe=>di (Vberaf.ints e)))) B'->oH
def IV:dR (Bk a4a) uP oH:=by
 intro ds m Q h;obtain⟨s,p,B,x,rfl,c,u,hl,q⟩:=h;dsimp[Bk,uP,aW _ c.q,Ac,f7 c.past,ah,dQ,cS];intro a z;have A:∀{b o},m b=Z_ o->b≠a:=λ{b o} h e=>by subst e;rw[z]at h;cases h
 have r:∀{l},(bQ m a (.lst l)) B.q=Z_ (.ins j_ (f9 B p)):=λ{l}=>by rw[ao (A c.q)];exact c.q
 have g:∀{l},(bQ m a (.lst l)) B.b1=Z_ (.lst (p.past.map Iw)):=λ{l}=>by rw[ao (A c.past)];exact c.past
 simp only[aW _ r,Ac,f_,g]
 let D:LI3:=λj σ k=>∃y,σ=[Z_ (.ref B.q),Z_ x,Z_ (.ref a),y]/\k=bQ m a (.lst (dI ((p.past.length:Int)::(p.past.take j).flatMap λe=>di (Vberaf.ints e))))
 refine⟨D,⟨ZZ,rfl,rfl⟩,?_,?_,?_⟩
 .rintro j σ k _ ⟨_,_,rfl⟩;exact g
 .rintro j d σ k E ⟨y,rfl,rfl⟩;obtain⟨v,C,rfl⟩:=VG E;have hvl:=u v (aJ C);have i:=Og (b:=p.past.take j) (f:=λe=>di (Vberaf.ints e)) (n:=101) λw hw=>by
   have:=u w (rT hw);simp[Vberaf.ints,di];lia
  have t:(dI ((p.past.length:Int)::(p.past.take j).flatMap λe=>di (Vberaf.ints e))).length+(dI (di (Vberaf.ints v))).length<1000000:=by
   rw[ke,ke,aZ];rw[eM]at i;have:min j p.past.length<=1000:=by lia
   have:=Fi 101 this;simp[Vberaf.ints,di];simp[Vberaf.ints,di]at i;lia
  dsimp[Iw];refine⟨_,_,rfl,Er,by rw[fF];lia,?_⟩;rw[<-Al];dsimp[t,cy];refine⟨_,rfl,?_⟩
  congr 2
  rw[eW C,fG];simp[dI]
 .rintro σ k ⟨y,rfl,rfl⟩;rw[ah,cO];dsimp[];exact .new z q
def pZ(A:PA)(a:ak):Prop:=a=A.z\/a=A.a1\/a=A.a2\/a=A.a3\/a=A.a4\/a=A.a5\/a=A.a6
def R7(A:PA):Prop:=[A.z,A.a1,A.a2,A.a3,A.a4,A.a5,A.a6].Nodup
inductive lM:Prop|mk s A n b:A'=[.ref A.z,.lst [.int ((n:Nat):Int),.int ((b:Nat):Int)]]->et s A B'->R7 A->s.puzzle.begins.length<=1000->s.maybes.length<=1000->(∀a,et (bu s (.var n b)).1 A a->uY (pZ A) B' a->D' (.lst (dI (bu s (.var n b)).2)) a)->lM
def EM:dR xI qH lM:=by
 intro ds m Q h;obtain⟨s,A,n,b,rfl,f,B,hb1,hb2,q⟩:=h;simp only[R7,bX,aL,yr,or_false,not_or,not_false_eq_true,v7,and_true]at B;obtain⟨⟨F,G,H,z4,z5,z6⟩,⟨g,i,k,l,p⟩,⟨j,r,t,u⟩,⟨v,w,x⟩,⟨d45,d46⟩,d56⟩:=B;dsimp[xI,qH,aW _ f.z,zG,f7 f.sizes,fF];simp only[bu]at q;refine dY (λh=>?_) λh=>?_
 .have h:Vberab.VARS<=s.puzzle.sizes.length:=by show 8<=_;simp at h;lia
  rw[i0p h]at q;exact .ret (q m f (uY.refl _ m))
 .have h:¬Vberab.VARS<=s.puzzle.sizes.length:=by show ¬8<=_;simp at h;lia
  have h8:s.puzzle.sizes.length<8:=by have:Vberab.VARS=8:=rfl;lia
  rw[i0n h]at q;have I:(dN s.puzzle.sizes).length<1000000:=by rw[fF];lia
  have J:(dN s.puzzle.begins).length<1000000:=by rw[fF];lia
  have K:(s.maybes.map FN).length<1000000:=by rw[ah];lia
  dsimp[f.sizes,I,gF,lT];have C:∀{o},(bQ m A.a1 o) A.z=Z_ (.ins iK (jg A s.puzzle.goal)):=λ{o}=>by rw[ao F];exact f.z
  have L:∀{o},(bQ m A.a1 o) A.a2=Z_ (.lst (dN s.puzzle.begins)):=λ{o}=>by rw[ao (aG g)];exact f.begins
  dsimp[aW _ C,Ab,L,J,lT];have D:∀{o c},(bQ (bQ m A.a1 o) A.a2 c) A.z=Z_ (.ins iK (jg A s.puzzle.goal)):=λ{o c}=>by rw[ao G];exact C
  have M:∀{o c},(bQ (bQ m A.a1 o) A.a2 c) A.a3=Z_ (.lst (s.maybes.map FN)):=λ{o c}=>by rw[ao (aG j),ao (aG i)];exact f.spans
  dsimp[aW _ D,zH,M,K,lT];have E:∀{o c d},(bQ (bQ (bQ m A.a1 o) A.a2 c) A.a3 d) A.z=Z_ (.ins iK (jg A s.puzzle.goal)):=λ{o c d}=>by rw[ao H];exact D
  have N:∀{c d},yI (bQ (bQ (bQ m A.a1 (.lst (dN s.puzzle.sizes++[.int (n:Int)]))) A.a2 c) A.a3 d) (.ref A.a1)=Z_ (dN s.puzzle.sizes++[.int (n:Int)]):=λ{c d}=>f7 (by rw[ao i,ao g,aS]);dsimp[aW _ E,zG,N,aK,fF];have e:(((s.puzzle.sizes.length+1:Nat):Int)-1)=(s.puzzle.sizes.length:Int):=by lia
  rw[e];refine .ret (q _ ⟨E,?_,?_,?_,?_,?_,?_⟩ λa y=>?_)
  .rw[ao i,ao g,aS];simp[dN,eN,jF]
  .rw[ao j,aS];simp[dN,eN,jF]
  .rw[aS];simp[FN,jF]
  .rw[ao (aG v),ao (aG r),ao (aG k)];exact f.doings
  .rw[ao (aG w),ao (aG t),ao (aG l)];exact f.views
  .rw[ao (aG x),ao (aG u),ao (aG p)];exact f.facts
  .rw[ao λe=>y (by simp[pZ,e]),ao λe=>y (by simp[pZ,e]),ao λe=>y (by simp[pZ,e])]
nonrec def zQ:∀(n:Nat) (l:List Int),l.length=3*n->∀t,fN l=Z_ t->JQ l=t.map λx=>D.tup [.int (x.1:Int),.int (x.2.1:Int),.int x.2.2]
 |0,l,d,t,h=>by have:l=[]:=kR (by lia);subst this;cases h;rfl
 |n+1,l,d,t,h=>by
  match l,d with
  |a::b::c::r,d=>
   have g:r.length=3*n:=by simp at d;lia
   unfold fN at h;split at h
   .rename_i f;cases e:fN r with
    |none=>rw[e]at h;cases h
    |some i=>
     rw[e]at h;cases h;have j:=zQ n r g i e;have k:((a.toNat:Nat):Int)=a:=by have:=f.1;simp[iV]at this;lia
     have m:((b.toNat:Nat):Int)=b:=by have:=f.2.1;simp[iV]at this;lia
     rw[aQ,<-j];unfold JQ;have o:((a::b::c::r).length+2) / 3=(r.length+2) / 3+1:=by simp;lia
     rw[o,qe,aQ,bq]
     congr 1
     .simp[three,dI,k,m]
   .cases h
def P_{l:List Int}{b:List g8}(h:Bu l=Z_ b)(hl:l.length%3=0):JQ l=b.map L6:=by
 unfold Bu at h;cases a:fN l with
 |none=>rw[a]at h;cases h
 |some t=>rw[a]at h;cases h;rw[zQ (l.length / 3) l (by lia) t a,bq];rfl
def ME{l:List Int}{b:List cp}(h:e8 l=Z_ b)(hl:l.length%3=0):JQ l=b.map Mj:=by
 unfold e8 at h;cases a:fN l with
 |none=>rw[a]at h;cases h
 |some t=>
  rw[a]at h;simp only[jX]at h;split at h
  .cases h;rw[zQ (l.length / 3) l (by lia) t a,bq];rfl
  .cases h
structure qu(c:List Int)(ns:List g8):Prop where
 of:Bu c=Z_ ns
 mod:c.length%3=0
 len:c.length<=1000
def qu.needs{c a}(h:qu c a):Vberaf.needs c=a:=by unfold Vberaf.needs;rw[h.of];rfl
def kh{s}{A:PA}{l m Q}(a:et s A m)(q:Q (.bl (!DR s l)) m):a3Z [.ref A.z,ot l] m Q:=⟨s,A,l,rfl,a,q⟩
def xi{c a m Q}(h:qu c a)(q:Q (ot a) m):a1U [.lst (dI c)] m Q:=Et h.len (by rwa[P_ h.of h.mod])
def et.ne{s A m}(b:et s A m):∀a,a=A.a1\/a=A.a2\/a=A.a3\/a=A.a4\/a=A.a5\/a=A.a6->a≠A.z:=by
 rintro a (h|h|h|h|h|h) e<;>subst h
 .have:=b.sizes;rw[e,b.z]at this;cases this
 .have:=b.begins;rw[e,b.z]at this;cases this
 .have:=b.spans;rw[e,b.z]at this;cases this
 .have:=b.doings;rw[e,b.z]at this;cases this
 .have:=b.views;rw[e,b.z]at this;cases this
 .have:=b.facts;rw[e,b.z]at this;cases this
def UT{A g a}:iA "goal" (ot a) (jg A g)=jg A a:=rfl
def YL{A g}:(jg A g).length<100:=by show 7<100;decide
inductive rH:Prop|mk s A c d:A'=[.ref A.z,.lst [.lst (dI c)]]->et s A B'->qu c d->(∀a,et (bu s (.goal c)).1 A a->uY (pZ A) B' a->D' (.lst (dI (bu s (.goal c)).2)) a)->rH
def MF:dR (FB a1U a3Z) yU rH:=by
 intro ds m Q h;obtain⟨s,A,c,ns,rfl,b,f,q⟩:=h;dsimp[FB,yU,gF];refine xi f ?_;refine kh b ?_;simp only[bu,f.needs]at q;dsimp[ug];refine dY (λh=>?_) λh=>?_
 .rw[i0p h]at q;exact .ret (q m b (uY.refl _ m))
 .rw[i0n (by rw[h];exact aB)]at q;simp only[iN b.z YL,UT];have d:=b.ne;refine .ret (q _ ⟨aS,?_,?_,?_,?_,?_,?_⟩ λa g=>ao λe=>g (by simp[pZ,e]))
  .rw[ao (d _ (by simp))];exact b.sizes
  .rw[ao (d _ (by simp))];exact b.begins
  .rw[ao (d _ (by simp))];exact b.spans
  .rw[ao (d _ (by simp))];exact b.doings
  .rw[ao (d _ (by simp))];exact b.views
  .rw[ao (d _ (by simp))];exact b.facts
def R7.ne{A:PA}(o:R7 A):(A.a4≠A.z/\A.a4≠A.a1/\A.a4≠A.a2/\A.a4≠A.a3/\A.a4≠A.a5/\A.a4≠A.a6)/\(A.a5≠A.z/\A.a5≠A.a1/\A.a5≠A.a2/\A.a5≠A.a3/\A.a5≠A.a4/\A.a5≠A.a6)/\(A.a6≠A.z/\A.a6≠A.a1/\A.a6≠A.a2/\A.a6≠A.a3/\A.a6≠A.a4/\A.a6≠A.a5)/\(A.a3≠A.z/\A.a3≠A.a1/\A.a3≠A.a2/\A.a3≠A.a4/\A.a3≠A.a5/\A.a3≠A.a6):=by simp only[R7,bX,aL,yr,or_false,not_or,not_false_eq_true,v7,and_true]at o;obtain⟨⟨z1,z2,p,q,r,s⟩,⟨d12,g,h,i,j⟩,⟨k,l,m,n⟩,⟨a,b,c⟩,⟨d,e⟩,f⟩:=o;exact⟨⟨aG q,aG h,aG l,aG a,d,e⟩,⟨aG r,aG i,aG m,aG b,aG d,f⟩,⟨aG s,aG j,aG n,aG c,aG e,aG f⟩,⟨aG p,aG g,aG k,a,b,c⟩⟩
inductive rJ:Prop|mk s A v c d:A'=[.ref A.z,.lst [.int ((v:Nat):Int),.lst (dI c)]]->et s A B'->R7 A->qu c d->(∀a,et (bu s (.see v c)).1 A a->uY (pZ A) B' a->D' (.lst (dI (bu s (.see v c)).2)) a)->rJ
def MG:dR (FC a1U a3U a3Z) yW rJ:=by
 intro ds m Q h;obtain⟨s,A,v,c,ns,rfl,b,i,g,q⟩:=h;obtain⟨_,⟨j,k,l,n,o,p⟩,_,_⟩:=i.ne;dsimp[FC,yW,gF,lT];refine xi g ?_;refine qo b ?_;simp only[bu,g.needs]at q;dsimp[];refine dY (λh=>?_) λh=>?_
 .have h:(s.puzzle.sizes.length:Int)<=(v:Int):=by have:=PB h;simp at this;lia
  rw[i0p (.inl h)]at q;exact .ret (q m b (uY.refl _ m))
 .have h:¬(s.puzzle.sizes.length:Int)<=(v:Int):=by have:=S_ h;simp at this;lia
  refine kh b ?_;dsimp[ug];refine dY (λf=>?_) λf=>?_
  .rw[i0p (.inr f)]at q;exact .ret (q m b (uY.refl _ m))
  .rw[i0n (by rintro (z|z);exact h z;rw[f]at z;cases z)]at q;dsimp[aW _ b.z,NZ,f7 b.views,ah];refine dY (λd=>?_) λd=>?_
   .rw[i0p (show Vberaf.VIEWS<=s.views.length by show 20<=_;simp at d;lia)]at q;exact .ret (q m b (uY.refl _ m))
   .have d:s.views.length<20:=by simp at d;lia
    rw[i0n (show ¬Vberaf.VIEWS<=s.views.length by show ¬20<=_;lia)]at q;have r:(s.views.map QY).length<1000000:=by rw[ah];lia
    dsimp[b.views,r,gF];refine .ret (q _ ⟨?_,?_,?_,?_,?_,?_,?_⟩ λa t=>ao λe=>t (by simp[pZ,e]))
    .rw[ao (aG j)];exact b.z
    .rw[ao (aG k)];exact b.sizes
    .rw[ao (aG l)];exact b.begins
    .rw[ao (aG n)];exact b.spans
    .rw[ao (aG o)];exact b.doings
    .rw[aS];simp[jF,QY]
    .rw[ao (aG p)];exact b.facts
inductive lN:Prop|mk s A n c d:A'=[.ref A.z,.lst [.int ((n:Nat):Int),.lst (dI c)]]->et s A B'->R7 A->qu c d->(∀a,et (bu s (.fact n c)).1 A a->uY (pZ A) B' a->D' (.lst (dI (bu s (.fact n c)).2)) a)->lN
def EN:dR (xJ a1U a3Z) qJ lN:=by
 intro ds m Q h;obtain⟨s,A,v,c,ns,rfl,b,i,f,q⟩:=h;obtain⟨_,_,⟨j,k,l,n,p,r⟩,_⟩:=i.ne;dsimp[xJ,qJ,gF,lT];refine xi f ?_;refine kh b ?_;simp only[bu,f.needs]at q;dsimp[ug];refine dY (λh=>?_) λh=>?_
 .rw[i0p h]at q;exact .ret (q m b (uY.refl _ m))
 .rw[i0n (by rw[h];exact aB)]at q;dsimp[aW _ b.z,qm,f7 b.facts,ah];refine dY (λd=>?_) λd=>?_
  .rw[i0p (show Vberaf.FACTS<=s.facts.length by show 12<=_;simp at d;lia)]at q;exact .ret (q m b (uY.refl _ m))
  .have d:s.facts.length<12:=by simp at d;lia
   rw[i0n (show ¬Vberaf.FACTS<=s.facts.length by show ¬12<=_;lia)]at q;have t:(s.facts.map D6).length<1000000:=by rw[ah];lia
   dsimp[b.facts,t,gF];have g:∀{o},(bQ m A.a6 o) A.z=Z_ (.ins iK (jg A s.puzzle.goal)):=λ{o}=>by rw[ao (aG j)];exact b.z
   dsimp[aW _ g,qm,L4,aK,ah];have e:(((s.facts.length+1:Nat):Int)-1)=(s.facts.length:Int):=by lia
   rw[e];refine .ret (q _ ⟨g,?_,?_,?_,?_,?_,?_⟩ λa u=>ao λe=>u (by simp[pZ,e]))
   .rw[ao (aG k)];exact b.sizes
   .rw[ao (aG l)];exact b.begins
   .rw[ao (aG n)];exact b.spans
   .rw[ao (aG p)];exact b.doings
   .rw[ao (aG r)];exact b.views
   .rw[aS];simp[jF,D6]
structure MH(c:List Int)(es:List cp):Prop where
 of:e8 c=Z_ es
 mod:c.length%3=0
 len:c.length<=1000
def Q0{c a m Q}(h:MH c a)(q:Q (NY a) m):a1U [.lst (dI c)] m Q:=Et h.len (by rwa[ME h.of h.mod])
def UU(s:ae)(a:List cp):a.all (qp s)=!(a.any λx=>decide (s.puzzle.sizes.length<=x.var)||(decide (2<=x.how)&&decide ((s.puzzle.sizes.length:Int)<=x.n))):=by
 rw[List.not_any_eq_all_not]
 congr 1
 funext x
 unfold qp;rw[bW];simp;lia
inductive p_:Prop|mk s A c e d f:A'=[.ref A.z,.lst [.lst (dI c),.lst (dI e)]]->et s A B'->R7 A->qu c d->MH e f->(∀a,et (bu s (.doing c e)).1 A a->uY (pZ A) B' a->D' (.lst (dI (bu s (.doing c e)).2)) a)->p_
def JW:dR (CV a1U a3Z a5H) wx p_:=by
 intro ds m Q h;obtain⟨s,A,c,e,ns,k,rfl,b,l,g,i,q⟩:=h;obtain⟨⟨n,p,r,t,u,v⟩,_,_,_⟩:=l.ne;dsimp[CV,wx,gF,lT];refine xi g ?_;refine Q0 i ?_;refine kh b ?_;simp only[bu,g.needs,i.of,qD]at q;dsimp[ug];refine dY (λh=>?_) λh=>?_
 .rw[i0p (by rw[h];rfl)]at q;exact .ret (q m b (uY.refl _ m))
 .rw[h]at q;simp only[Fg]at q;refine⟨s,A,k,rfl,b,?_⟩;rw[UU];dsimp[ug];refine dY (λf=>?_) λf=>?_
  .rw[i0p f]at q;exact .ret (q m b (uY.refl _ m))
  .rw[i0n (by rw[f];exact aB)]at q;dsimp[aW _ b.z,vI,f7 b.doings,ah];refine dY (λd=>?_) λd=>?_
   .rw[i0p (show Vberab.DOINGS<=s.puzzle.doings.length by show 20<=_;simp at d;lia)]at q;exact .ret (q m b (uY.refl _ m))
   .have d:s.puzzle.doings.length<20:=by simp at d;lia
    rw[i0n (show ¬Vberab.DOINGS<=s.puzzle.doings.length by show ¬20<=_;lia)]at q;have w:(s.puzzle.doings.map uQ).length<1000000:=by rw[ah];lia
    dsimp[b.doings,w];have j:∀{o},(bQ m A.a4 o) A.z=Z_ (.ins iK (jg A s.puzzle.goal)):=λ{o}=>by rw[ao (aG n)];exact b.z
    dsimp[aW _ j,vI,L4,aK,ah];have e:(((s.puzzle.doings.length+1:Nat):Int)-1)=(s.puzzle.doings.length:Int):=by lia
    rw[e];refine .ret (q _ ⟨j,?_,?_,?_,?_,?_,?_⟩ λa x=>ao λe=>x (by simp[pZ,e]))
    .rw[ao (aG p)];exact b.sizes
    .rw[ao (aG r)];exact b.begins
    .rw[ao (aG t)];exact b.spans
    .rw[aS];simp[jF,uQ]
    .rw[ao (aG u)];exact b.views
    .rw[ao (aG v)];exact b.facts
inductive rK:Prop|mk s A v lo a:A'=[.ref A.z,.lst [.int ((v:Nat):Int),.int ((lo:Nat):Int),.int ((a:Nat):Int)]]->et s A B'->R7 A->s.puzzle.begins.length=s.puzzle.sizes.length->s.maybes.length=s.puzzle.sizes.length->(∀b,et (bu s (.maybe v lo a)).1 A b->uY (pZ A) B' b->D' (.lst (dI (bu s (.maybe v lo a)).2)) b)->rK
def MI:dR (FD a3U) yY rK:=by
 intro ds m Q h;obtain⟨s,A,v,lo,n,rfl,b,o,hb,hs,q⟩:=h;obtain⟨_,_,_,⟨p,t,u,w,x,y⟩⟩:=o.ne;dsimp[FD,yY,gF,lT,NW];refine qo b ?_;simp only[bu,bA]at q;dsimp[];refine dY (λh=>?_) λh=>?_
 .have h:s.puzzle.sizes.length<=v:=by have:=PB h;simp at this;lia
  rw[cv h]at q;exact .ret (q m b (uY.refl _ m))
 .have h:v<s.puzzle.sizes.length:=by have:=S_ h;simp at this;lia
  have c:v<s.puzzle.begins.length:=by lia
  rw[aj h,aj c]at q;simp only at q;have B:eK m (.ref A.a1)=ZZ:=jf b.sizes;have C:eK m (.ref A.a2)=ZZ:=jf b.begins;have D:=Im (r:=s.puzzle.sizes) (i:=v) (aj h);have E:=Im (r:=s.puzzle.begins) (i:=v) (aj c);dsimp[aW _ b.z,zG,Ab,B,C,fU b.sizes,fU b.begins,D,E];refine dY (λf=>?_) λf=>?_
  .rw[i0p (by simpa using f)]at q;exact .ret (q m b (uY.refl _ m))
  .rw[i0n (by simpa using f)]at q;have done:(if decide ((s.puzzle.begins[v]:Int)<(lo:Int))=ZY then True else True):=by split<;>trivial
   have d:((s.puzzle.begins[v]:Int)<(lo:Int)\/(n:Int)<(s.puzzle.begins[v]:Int))->A7 Q (.lst [.int (-5)]) m:=λg=>by rw[i0p g]at q;exact .ret (q m b (uY.refl _ m))
   refine dY (λj=>d (.inl (by simpa using j))) λj=>dY (λk=>d (.inr (by simpa using k))) λk=>?_;have g:¬((s.puzzle.begins[v]:Int)<(lo:Int)\/(n:Int)<(s.puzzle.begins[v]:Int)):=by simp at j k;lia
   rw[i0n g]at q;have l:SW (s.maybes.map FN).length (v:Int)=Z_ v:=He (by rw[ah];lia);dsimp[aW _ b.z,zH,b.spans,l];refine .ret (q _ ⟨?_,?_,?_,?_,?_,?_,?_⟩ λa F=>ao λe=>F (by simp[pZ,e]))
   .rw[ao (aG p)];exact b.z
   .rw[ao (aG t)];exact b.sizes
   .rw[ao (aG u)];exact b.begins
   .rw[aS];simp[jF,FN,Hv]
   .rw[ao (aG w)];exact b.doings
   .rw[ao (aG x)];exact b.views
   .rw[ao (aG y)];exact b.facts
def c8{m a p o}(h:bQ m a o p=ZZ):p≠a/\m p=ZZ:=by
 by_cases e:p=a
 .subst e;rw[aS]at h;cases h
 .rw[ao e]at h;exact⟨e,h⟩
def zf1{a}:iA "sizes" a []=([("sizes",a)]:List (Str×D)):=rfl
def zf2{a b}:iA "begins" b [("sizes",a)]=([("sizes",a),("begins",b)]:List (Str×D)):=rfl
def zf3{a b c}:iA "spans" c [("sizes",a),("begins",b)]=([("sizes",a),("begins",b),("spans",c)]:List (Str×D)):=rfl
def zf4{a b c d}:iA "doings" d [("sizes",a),("begins",b),("spans",c)]=([("sizes",a),("begins",b),("spans",c),("doings",d)]:List (Str×D)):=rfl
def zf5{a b c d e}:iA "goal" e [("sizes",a),("begins",b),("spans",c),("doings",d)]=([("sizes",a),("begins",b),("spans",c),("doings",d),("goal",e)]:List (Str×D)):=rfl
def zf6{a b c d e f}:iA "views" f [("sizes",a),("begins",b),("spans",c),("doings",d),("goal",e)]=([("sizes",a),("begins",b),("spans",c),("doings",d),("goal",e),("views",f)]:List (Str×D)):=rfl
def zf7{a b c d e f g}:iA "facts" g [("sizes",a),("begins",b),("spans",c),("doings",d),("goal",e),("views",f)]=([("sizes",a),("begins",b),("spans",c),("doings",d),("goal",e),("views",f),("facts",g)]:List (Str×D)):=rfl
inductive a4U:Prop|mk (x:ak):A'=[.ref x]->B' x=Z_ (.ins iK [])->(∀A b,A.z=x->et dc A b->R7 A->(∀a,pZ A a->a≠x->B' a=ZZ)->uY (pZ A) B' b->D' .non b)->a4U
def IW:dR B8 uu a4U:=by
 intro ds m Q h;obtain⟨x,rfl,K,q⟩:=h;dsimp[B8,uu];intro B h1;have C:x≠B:=by rintro rfl;rw[K]at h1;cases h1
 dsimp[j0 C,iN K (show ([]:List (Str×D)).length<100 by decide),zf1];intro L i;obtain⟨E,i⟩:=c8 i;obtain⟨j,i⟩:=c8 i;dsimp[j0 (aG E),fP,zf2];intro M f;obtain⟨F,f⟩:=c8 f;obtain⟨k,f⟩:=c8 f;obtain⟨_,f⟩:=c8 f;obtain⟨l,f⟩:=c8 f;dsimp[j0 (aG F),fP,zf3];intro N d;obtain⟨G,d⟩:=c8 d;obtain⟨n,d⟩:=c8 d;obtain⟨_,d⟩:=c8 d;obtain⟨o,d⟩:=c8 d;obtain⟨_,d⟩:=c8 d;obtain⟨p,d⟩:=c8 d;dsimp[j0 (aG G),fP,zf4,zf5,cy];intro O c;obtain⟨H,c⟩:=c8 c;obtain⟨r,c⟩:=c8 c;obtain⟨_,c⟩:=c8 c;obtain⟨s,c⟩:=c8 c;obtain⟨_,c⟩:=c8 c;obtain⟨t,c⟩:=c8 c;obtain⟨_,c⟩:=c8 c;obtain⟨u,c⟩:=c8 c;dsimp[j0 (aG H),fP,zf6];intro P b;obtain⟨I,b⟩:=c8 b;obtain⟨v,b⟩:=c8 b;obtain⟨_,b⟩:=c8 b;obtain⟨w,b⟩:=c8 b;obtain⟨_,b⟩:=c8 b;obtain⟨y,b⟩:=c8 b;obtain⟨_,b⟩:=c8 b;obtain⟨z,b⟩:=c8 b;obtain⟨_,b⟩:=c8 b;obtain⟨A,b⟩:=c8 b;dsimp[j0 (aG I),fP,zf7];have R:=aG C;refine q ⟨x,B,L,M,N,O,P⟩ _ rfl ⟨aS,?_,?_,?_,?_,?_,?_⟩ ?_ ?_ λa g=>?_
 .simp only[ao R,ao (aG A),ao (aG u),ao (aG p),ao (aG l),ao (aG j),aS];rfl
 .simp only[ao E,ao (aG z),ao (aG t),ao (aG o),ao (aG k),aS];rfl
 .simp only[ao F,ao (aG y),ao (aG s),ao (aG n),aS];rfl
 .simp only[ao G,ao (aG w),ao (aG r),aS];rfl
 .simp only[ao H,ao (aG v),aS];rfl
 .simp only[ao I,aS];rfl
 .unfold R7;simp only[bX,aL,yr,or_false,not_or,not_false_eq_true,v7,and_true];exact⟨⟨C,aG E,aG F,aG G,aG H,aG I⟩,⟨aG j,aG l,aG p,aG u,aG A⟩,⟨aG k,aG o,aG t,aG z⟩,⟨aG n,aG s,aG y⟩,⟨aG r,aG w⟩,aG v⟩
 .rintro a (e|e|e|e|e|e|e) J<;>subst e
  .exact absurd rfl J
  .exact h1
  .exact i
  .exact f
  .exact d
  .exact c
  .exact b
 .have S:a≠x:=λe=>g (by simp[pZ,e]);have T:a≠B:=λe=>g (by simp[pZ,e]);have U:a≠L:=λe=>g (by simp[pZ,e]);have V:a≠M:=λe=>g (by simp[pZ,e]);have W:a≠N:=λe=>g (by simp[pZ,e]);have X:a≠O:=λe=>g (by simp[pZ,e]);have Y:a≠P:=λe=>g (by simp[pZ,e]);simp only[ao S,ao T,ao U,ao V,ao W,ao X,ao Y]
def yf1{a}:iA "puzzle" a []=([("puzzle",a)]:List (Str×D)):=rfl
def yf2{a b}:iA "actual" b [("puzzle",a)]=([("puzzle",a),("actual",b)]:List (Str×D)):=rfl
def yf3{a b c}:iA "belief" c [("puzzle",a),("actual",b)]=([("puzzle",a),("actual",b),("belief",c)]:List (Str×D)):=rfl
def yf4{a b c d}:iA "purse" d [("puzzle",a),("actual",b),("belief",c)]=([("puzzle",a),("actual",b),("belief",c),("purse",d)]:List (Str×D)):=rfl
def yf5{a b c d e}:iA "past" e [("puzzle",a),("actual",b),("belief",c),("purse",d)]=([("puzzle",a),("actual",b),("belief",c),("purse",d),("past",e)]:List (Str×D)):=rfl
def yf6{a b c d e f}:iA "sights" f [("puzzle",a),("actual",b),("belief",c),("purse",d),("past",e)]=([("puzzle",a),("actual",b),("belief",c),("purse",d),("past",e),("sights",f)]:List (Str×D)):=rfl
def yf7{a b c d e f g}:iA "trials" g [("puzzle",a),("actual",b),("belief",c),("purse",d),("past",e),("sights",f)]=([("puzzle",a),("actual",b),("belief",c),("purse",d),("past",e),("sights",f),("trials",g)]:List (Str×D)):=rfl
def EO(s:ae)(b:List (List Nat))(n:Nat):bM:={now:=s.puzzle.begins,belief:=b,purse:=n}
inductive a5x:Prop|mk s A x b n:A'=[.ref x,.ref A.z,rP b,.int ((n:Nat):Int)]->B' x=Z_ (.ins j_ [])->et s A B'->(∀B c,B.q=x->B.A=A->eP s (EO s b n) B c->bT s [] B c->zL B->B' B.b1=ZZ->B' B.b2=ZZ->B' B.b3=ZZ->uY (λa=>a=B.q\/a=B.b1\/a=B.b2\/a=B.b3) B' c->D' .non c)->a5x
def et.at{s A m a}(b:et s A m)(c:pZ A a):∃o,m a=Z_ o/\∀C,o≠.ins C []:=by
 rcases c with h|h|h|h|h|h|h<;>subst h
 .exact⟨_,b.z,λC e=>by injection e with _ e;cases e⟩
 .exact⟨_,b.sizes,λC e=>by cases e⟩
 .exact⟨_,b.begins,λC e=>by cases e⟩
 .exact⟨_,b.spans,λC e=>by cases e⟩
 .exact⟨_,b.doings,λC e=>by cases e⟩
 .exact⟨_,b.views,λC e=>by cases e⟩
 .exact⟨_,b.facts,λC e=>by cases e⟩
def MJ:dR FE z8 a5x:=by
 intro ds m Q h;obtain⟨s,A,x,b,n,rfl,u,g,q⟩:=h;have j:∀a,pZ A a->a≠x:=λa d e=>by obtain⟨o,h1,f⟩:=g.at d;rw[e,u]at h1;exact f _ (az h1).symm
 have E:∀{o},(bQ m x o) A.z=Z_ (.ins iK (jg A s.puzzle.goal)):=λ{o}=>by rw[ao (j _ (.inl rfl))];exact g.z
 have F:∀{o},(bQ m x o) A.a2=Z_ (.lst (dN s.puzzle.begins)):=λ{o}=>by rw[ao (j _ (by simp[pZ]))];exact g.begins
 dsimp[FE,z8,iN u (show ([]:List (Str×D)).length<100 by decide),yf1,aW _ E,Ab,fU F,fP,yf2,yf3,yf4,cy];intro k h1;obtain⟨v,h1⟩:=c8 h1;dsimp[j0 (aG v),fP,yf5];intro l f;obtain⟨w,f⟩:=c8 f;obtain⟨p,f⟩:=c8 f;obtain⟨_,f⟩:=c8 f;dsimp[j0 (aG w),fP,yf6];intro r c;obtain⟨y,c⟩:=c8 c;obtain⟨i,c⟩:=c8 c;obtain⟨_,c⟩:=c8 c;obtain⟨t,c⟩:=c8 c;obtain⟨_,c⟩:=c8 c;dsimp[j0 (aG y),fP,yf7];have B:∀a,pZ A a->a≠k/\a≠l/\a≠r:=λa d=>by obtain⟨o,e,_⟩:=g.at d;exact⟨λz=>(by rw[z,h1]at e;cases e),λz=>(by rw[z,f]at e;cases e),λz=>(by rw[z,c]at e;cases e)⟩
 refine q ⟨x,k,l,r,A⟩ _ rfl rfl ⟨g.mono λa o e C=>?_,aS,?_⟩ ⟨aG i,[],[],?_,?_,by simp,by simp,by simp,by simp⟩ ⟨λa d=>⟨j a d,(B a d).1⟩⟩ h1 f c λa d=>?_
 .obtain⟨G,H,I⟩:=B a C;have J:=j a C;simp only[ao J,ao G,ao H,ao I];exact e
 .simp only[ao v,ao (aG t),ao (aG p),aS];rfl
 .simp only[ao w,ao (aG i),aS]
 .simp only[ao y,aS]
 .have K:a≠x:=λe=>d (.inl e);have L:a≠k:=λe=>d (.inr (.inl e));have M:a≠l:=λe=>d (.inr (.inr (.inl e)));have N:a≠r:=λe=>d (.inr (.inr (.inr e)));simp only[ao K,ao L,ao M,ao N]
def same(b:List (List Nat))(v:List Nat)(i:Nat):Bool:=b.all λw=>w.getD i 0==v.getD i 0
def mJ(b:List (List Nat))(v:List Nat)(n:Nat):List Nat:=((bL n).filter (same b v)).flatMap λi=>[i,v.getD i 0]
def Dn(b:List (List Nat))(v:List Nat)(n:Nat):mJ b v (n+1)=mJ b v n++if same b v n=ZY then [n,v.getD n 0] else []:=by
 unfold mJ;rw[AX,List.filter_append,fG]
 congr 1
 by_cases h:same b v n=ZY
 .simp[h]
 .simp[h]
def FV(b:List (List Nat))(v:List Nat)(n:Nat):(mJ b v n).length=2*((bL n).filter (same b v)).length:=by
 unfold mJ;generalize (bL n).filter (same b v)=l;induction l with
 |nil=>rfl
 |cons i l a=>rw[lR,aK,a];simp;lia
def IX(s:ae)(p:bM):List Int:=let l:=(bL s.puzzle.sizes.length).filter λi=>p.belief.all λv=>v.getD i 0==p.now.getD i 0;(l.length:Int)::l.flatMap λi=>Vberaf.ints [i,p.now.getD i 0]
inductive mK:Prop|mk s p B x:A'=[.ref B.q,x]->mq s->eP s p B B'->Bo s p->p.now∈p.belief->D' (.lst (dI (IX s p))) B'->mK
def UV{s:ae}{p:bM}{v}(f:v∈p.belief)(b:p.now∈p.belief):IX s p=((((bL s.puzzle.sizes.length).filter (same p.belief v)).length:Nat):Int)::zI (mJ p.belief v s.puzzle.sizes.length):=by
 have c:∀i,(same p.belief v i=ZY↔same p.belief p.now i=ZY)/\(same p.belief v i=ZY->v.getD i 0=p.now.getD i 0):=by
  intro i;unfold same;rw[cb,cb];refine⟨⟨λh w hw=>?_,λh w hw=>?_⟩,λh=>?_⟩
  .have h1:=h w hw;have a:=h p.now b;simp only[beq_iff_eq]at h1 a ⊢;rw[h1,a]
  .have h1:=h w hw;have a:=h v f;simp only[beq_iff_eq]at h1 a ⊢;rw[h1,a]
  .have a:=h p.now b;simp only[beq_iff_eq]at a;exact a.symm
 have e:(λi=>p.belief.all λv=>v.getD i 0==p.now.getD i 0)=same p.belief v:=by
  funext i
  rw[bW];exact (c i).1.symm
 unfold IX mJ;simp only[e]
 congr 1
 unfold zI;rw[List.map_flatMap];have:∀l:List Nat,(∀i∈l,same p.belief v i=ZY)->(l.flatMap λi=>Vberaf.ints [i,p.now.getD i 0])=l.flatMap λi=>List.map (λ(n:Nat)=>(n:Int)) [i,v.getD i 0]:=by
  intro l d;induction l with
  |nil=>rfl
  |cons i l g=>rw[lR,lR,g λj k=>d j (by simp[k]),(c i).2 (d i (by simp))];rfl
 exact this _ λi m=>(du.mp m).2
def Gs:dR zq sN mK:=by
 intro ds m Q h;obtain⟨s,p,B,x,rfl,g,P,R,G,q⟩:=h;have hg:=g.vars;obtain⟨v,rest,S⟩:∃v rest,p.belief=v::rest:=by
  cases U:p.belief with
  |nil=>rw[U]at G;cases G
  |cons v r=>exact⟨v,r,rfl⟩
 have n:v∈p.belief:=by rw[S];simp
 have t:=(R.bel v n).len;rw[UV n G]at q;have H:tL (p.belief.map eV) 0=Z_ (eV v):=by rw[S];exact gF
 dsimp[zq,sN,dQ,r_];intro a T;have V:∀{b o},m b=Z_ o->b≠a:=λ{b o} h e=>by subst e;rw[T]at h;cases h
 have u:∀{l},(bQ m a (.lst l)) B.q=Z_ (.ins j_ (f9 B p)):=λ{l}=>by rw[ao (V P.q)];exact P.q
 dsimp[aW _ u,gX,rP,H];simp only[eV,r8,if_true,f_]
 let W:LI3:=λj σ C=>∃I J K,σ=[Z_ (.ref B.q),Z_ x,Z_ (.ref a),I,J,K]/\C=bQ m a (.lst (dN (mJ p.belief v j)))
 refine⟨W,⟨ZZ,ZZ,ZZ,rfl,rfl⟩,λ_ _ _ _ _=>trivial,?_,?_⟩
 .rintro j d σ C L ⟨I,J,K,rfl,rfl⟩;have E:=(ax.mp L).1;rw[iG,fF]at E;have f:=vh (l:=dN v) (i:=j) (d:=.int (v[j]:Int)) (by simp[dN,eN,E]);rw[f]at L;cases az L;have y:v.getD j 0=v[j]:=by rw[aI,aj E];rfl
  dsimp[ku,cS,aW _ u,gX,rP,f_,kS];intro Z M;refine QZ p.belief eV (λw=>Z_ (.bl (w.getD j 0==v.getD j 0))) rfl (λF=>∃c,F=bQ (bQ m a (.lst (dN (mJ p.belief v j)))) Z (.lst c)) ⟨_,rfl⟩ (λC c ⟨x,e⟩=>⟨c,by rw[e,cy]⟩) (λ_ _=>trivial) (λw hw F c hI A X Y hX hY=>?_) λF ⟨z,e⟩ A=>?_
  .have N:j<w.length:=by rwa[(R.bel w hw).len,<-t]
   dsimp[eV,ib,D7 N];have e:decide (((w.getD j 0:Nat):Int)=(v[j]:Int))=(w.getD j 0==v.getD j 0):=by rw[y,bW];simp;lia
   rw[e];exact hX _ F rfl hI A
  .subst e;have e2:p.belief.filterMap (λw=>Z_ (D.bl (w.getD j 0==v.getD j 0)))=(p.belief.map λw=>w.getD j 0==v.getD j 0).map D.bl:=by rw[bq];exact rh λ_ _=>rfl
   have hlen:=FV p.belief v j;have k:=fS (same p.belief v) (bL j);rw[qg]at k;have l1:(dN (mJ p.belief v j)).length<1000000:=by rw[fF];lia
   have O:(dN (mJ p.belief v j)).length+1<1000000:=by rw[fF];lia
   dsimp[e2,ia M,lg,kY,w6,l1,O,aK,cy];refine dY (λh=>?_) λh=>?_
   .refine⟨_,_,_,rfl,?_⟩;rw[Dn,i0p (show same p.belief v j=ZY from h),Mn,y];simp[dN,eN]
   .refine⟨_,_,_,rfl,?_⟩;rw[Dn,i0n (by rw[show same p.belief v j=ZX from h];exact aB),e9]
 .rintro σ C ⟨I,J,K,rfl,rfl⟩;rw[iG,fF,t];have hlen:=FV p.belief v s.puzzle.sizes.length;have k:=fS (same p.belief v) (bL s.puzzle.sizes.length);rw[qg]at k;have O:1+(dN (mJ p.belief v s.puzzle.sizes.length)).length<=1000000:=by rw[fF];lia
  have f:(0:Int)<2/\(2:Int)<1000000:=by decide
  dsimp[f,and_self,fF,hlen,O,L1];have ed:(((2*((bL s.puzzle.sizes.length).filter (same p.belief v)).length:Nat):Int) / 2)=(((bL s.puzzle.sizes.length).filter (same p.belief v)).length:Int):=by lia
  rw[i0p (by lia),ed];refine .sub (Cj.new T) ?_;rwa[FO]
def fJ(z:ak)(d:D):List (Str×D):=[("puzzle",.ref z),("play",d)]
def Ao{z d}:(fJ z d).lookup ("puzzle":Str)=Z_ (.ref z):=rfl
def R8{z d}:(fJ z d).lookup ("play":Str)=Z_ d:=rfl
def MK{z d}:(fJ z d).length<100:=by show 2<100;decide
def Oh{z y d}:iA "puzzle" (.ref y) (fJ z d)=fJ y d:=rfl
def ER{z d e}:iA "play" e (fJ z d)=fJ z e:=rfl
def gf1{a}:iA "puzzle" a []=([("puzzle",a)]:List (Str×D)):=rfl
def gf2{z e}:iA "play" e [("puzzle",.ref z)]=fJ z e:=rfl
def UW(m:M)(x:ak)(A:PA)(d:D)(m':M):Prop:=et dc A m'/\R7 A/\m' x=Z_ (.ins iW (fJ A.z d))/\(∀a,pZ A a->m a=ZZ)/\uY (λa=>a=x\/pZ A a) m m'
inductive a5r:Prop|mk (x:ak):A'=[.ref x]->B' x=Z_ (.ins iW [])->(∀A b,UW B' x A .non b->D' .non b)->a5r
def a0e{m c x y}{A:PA}{o}(d:m x=Z_ o)(i:m y=ZZ)(j:A.z=y)(h1:∀a,pZ A a->a≠y->(bQ m y (.ins iK [])) a=ZZ)(k:uY (pZ A) (bQ m y (.ins iK [])) c):(∀a,pZ A a->m a=ZZ)/\uY (pZ A) m c/\c x=Z_ o/\∀a,pZ A a->a≠x:=by
 have f:∀a,pZ A a->m a=ZZ:=λa b=>by
  by_cases e:a=y
  .rwa[e]
  .have:=h1 a b e;rw[ao e]at this;exact this
 have g:∀a,pZ A a->a≠x:=λa b e=>by rw[<-e,f a b]at d;cases d
 have h:uY (pZ A) m c:=λa b=>by rw[k a b,ao λe=>b (.inl (e.trans j.symm))]
 exact⟨f,h,by rwa[h x λz=>g x z rfl],g⟩
def et.a2u{s A m x o}(b:et s A m)(c:∀a,pZ A a->a≠x):et s A (bQ m x o):=b.mono λa o' e d=>by rwa[ao (c a d)]
def ML:dR (FK a4U iK) zz a5r:=by intro ds m Q h;obtain⟨x,rfl,d,q⟩:=h;dsimp[FK,zz];intro y f;refine⟨y,rfl,aS,λA m2 b g i j k=>?_⟩;obtain⟨l,n,o,p⟩:=a0e d f b j k;dsimp[iN o (show ([]:List (Str×D)).length<100 by decide),gf1,fP,gf2,cy];rw[<-b];exact q A _ ⟨g.a2u p,i,aS,l,λa c=>by rw[ao λe=>c (.inl e)];exact n a λz=>c (.inr z)⟩
inductive a5L:Prop|mk (x z:ak) (d:D):A'=[.ref x]->B' x=Z_ (.ins iW (fJ z d))->(∀A b,UW B' x A .non b->D' (.lst (dI [0])) b)->a5L
def JX:dR (D4 a4U iK) wL a5L:=by intro ds m Q h;obtain⟨x,z,d,rfl,f,q⟩:=h;dsimp[D4,wL];intro y g;refine⟨y,rfl,aS,λA m2 b i j k l=>?_⟩;obtain⟨n,o,p,r⟩:=a0e f g b k l;dsimp[iN p MK,Oh,fP MK,ER,cy];rw[<-b];exact .ret (q A _ ⟨i.a2u r,j,aS,n,λa c=>by rw[ao λe=>c (.inl e)];exact o a λz=>c (.inr z)⟩)
def lr(b:List Nat)(l:List Nat):List Nat:=l.foldl (λa x=>if a.contains x=ZY then a else a++[x]) b
def jQ(b l:List Nat):lr b l=b++lV (l.filter λj=>!b.contains j):=by
 have i:∀(l c:List Nat),(∀x∈c,b.contains x=ZX)->l.foldl (λa x=>if a.contains x=ZY then a else a++[x]) (b++c)=b++(l.filter λj=>!b.contains j).foldl (λm x=>if m.contains x=ZY then m else m++[x]) c:=by
  intro l;induction l with
  |nil=>intro c _;rfl
  |cons x l k=>
   intro c d;rw[d5,iU];by_cases e:b.contains x=ZY
   .have h1:(b++c).contains x=ZY:=by
     simp only[Bv]at e ⊢;simp[e]
    rw[i0p h1,e];simp only[xW,bR,if_false];exact k c d
   .have g:b.contains x=ZX:=by simpa using e
    rw[g];simp only[Bool.not_false,if_true,d5];by_cases f:c.contains x=ZY
    .have h1:(b++c).contains x=ZY:=by
      simp only[Bv]at f ⊢;simp[f]
     rw[i0p h1,i0p f];exact k c d
    .have h1:¬(b++c).contains x=ZY:=by
      simp only[Bv]at f e ⊢;simp[f,e]
     rw[i0n h1,i0n f,dw];refine k (c++[x]) λy n=>?_;rcases aX.mp n with h|h
     .exact d y h
     .rw[bb]at h;subst h;exact g
 have:=i l [] (by simp);rw[e9]at this;exact this
def FW(a l:List Nat)(x:Nat):lr a (l++[x])=if (lr a l).contains x=ZY then lr a l else lr a l++[x]:=by unfold lr;rw[gD];rfl
def C1{a l}{x:Nat}(h:x∈lr a l):x∈a\/x∈l:=by
 rw[jQ]at h;rcases aX.mp h with h|h
 .exact .inl h
 .rw[(Af _).2]at h;exact .inr (du.mp h).1
def xj{c l:List Nat}(h:c.Nodup):(lr c l).Nodup:=by rw[jQ,eE];refine⟨h,(Af _).1,λa f b d=>?_⟩;rw[(Af _).2]at d;have:=(du.mp d).2;intro e;subst e;simp[f]at this
def YM(a:List Nat)(x:Nat):((dN a).any λz=>Pp z (.int (x:Int)))=a.contains x:=by
 induction a with
 |nil=>rfl
 |cons y r b=>
  have:dN (y::r)=eN y::dN r:=rfl;rw[this,fm,b,List.contains_cons]
  congr 1
  simp only[eN,Pp];rw[bW];simp only[beq_iff_eq];lia
def R9(a:List Nat):((dN a).all λd=>(lS d).isSome)=ZY:=by rw[cb];intro d b;obtain⟨o,_,rfl⟩:=aF.mp b;rfl
abbrev c9(s:ae)(g:Sg):Lv:=cc (a9 s) g
inductive a5W:Prop|mk s b c room g:A'=[.ref b,.lst ((c9 s g).map fX)]->B' b=Z_ (.ins cK (jA room g c))->kW s g->g.nodes.length<=1000->(au (c9 s g) 0).isSome=ZY->D' (.lst (dN (jr g (c9 s g) 0))) B'->a5W
nonrec def Do{s}{g:Sg}{i:Nat}{e:Nat×List Nat}(hm:kW s g)(h:cV g (c9 s g) i=Z_ e):∀j∈e.2,j<g.nodes.length/\(au (c9 s g) j).isSome=ZY:=by
 unfold cV at h;split at h
 .rename_i k hk;have b:=v_ h;have l:=List.find?_some h;intro j m;have d:∃c∈g.next,e∈c:=by
   rw[aI]at b;cases f:g.next[i]? with
   |none=>rw[f]at b;cases b
   |some c=>rw[f]at b;exact⟨c,aJ f,b⟩
  obtain⟨c,h1,o⟩:=d;refine⟨(hm.a2h c h1 e o).2 j m,?_⟩;cases p:bh (c9 s g) e.2 with
  |none=>rw[p]at l;cases l
  |some n=>obtain⟨a,q,_⟩:=(xb (hm.a2h c h1 e o).1 p).2 j m;rw[q];rfl
 .cases h
def IY:dR (Bc a4y) uD a5W:=by
 intro ds m Q h;obtain⟨s,G,W,room,g,rfl,B,hm,hnl,T,q⟩:=h;dsimp[Bc,uD];intro a I;have X:G≠a:=by rintro rfl;rw[B]at I;cases I
 have hlen:=kg hm;have C:0<g.nodes.length:=by rw[<-hlen];obtain⟨k,J⟩:=fM.mp T;exact Ll J
 let K:LI3:=λn σ z=>∃(at_ fuel:Nat) (b:List Nat) (U A:Option D),n=g.nodes.length-at_/\σ=[Z_ (.ref G),Z_ (.lst ((c9 s g).map fX)),Z_ (.ref a),Z_ (.int (at_:Int)),U,A]/\z=bQ m a (.lst (dN b))/\b.Nodup/\(∀j∈b,j<g.nodes.length/\(au (c9 s g) j).isSome=ZY)/\at_<=b.length/\fuel+at_=g.nodes.length+1/\jr g (c9 s g) 0=js g (c9 s g) fuel (b.drop at_) b
 refine⟨K,⟨_,0,g.nodes.length+1,[0],ZZ,ZZ,rfl,rfl,rfl,by simp,by simpa using ⟨C,T⟩,by simp,rfl,rfl⟩,?_⟩;rintro n σ z ⟨at_,fuel,b,U,A,rfl,rfl,rfl,t,p,hat,hfu,c⟩;have hrl:b.length<=g.nodes.length:=by have:=t5 t (r:=bL g.nodes.length) λx Y=>cT.mpr (p x Y).1;simpa using this
 dsimp[fF];by_cases v:at_<b.length
 .rw[i0p (by simpa using v)];obtain⟨fuel,rfl⟩:∃f,fuel=f+1:=⟨fuel-1,by lia⟩
  obtain⟨i,L⟩:∃i,b[at_]?=Z_ i:=⟨_,aj v⟩
  obtain⟨M,N⟩:=p i (aJ L);obtain⟨k,J⟩:=fM.mp N;have w:b.drop at_=i::b.drop (at_+1):=by obtain⟨O,rfl⟩:=ax.mp L;exact cf O
  rw[w]at c;have E:∀{o},(bQ m a o) G=Z_ (.ins cK (jA room g W)):=λ{o}=>by rwa[ao X]
  dsimp[FM,Im L];refine C0 hm E M J ?_;have c:jr g (c9 s g) 0=(match cV g (c9 s g) i with
   |none=>js g (c9 s g) fuel (b.drop (at_+1)) b
   |some e=>let F:=lV (e.2.filter λj=>!b.contains j);js g (c9 s g) fuel (b.drop (at_+1)++F) (b++F)):=c
  cases P:cV g (c9 s g) i with
  |none=>rw[P]at c;dsimp[PU];exact⟨g.nodes.length-(at_+1),by lia,at_+1,fuel,b,_,_,rfl,rfl,rfl,t,p,by lia,by lia,c⟩
  |some e=>
   rw[P]at c;simp only at c;rw[<-jQ]at c;have u:=Do hm P;dsimp[PU,ED,dQ,cS,lT,f_]
   let K:LI3:=λj σ z=>∃A,σ=[Z_ (.ref G),Z_ (.lst ((c9 s g).map fX)),Z_ (.ref a),Z_ (.int (at_:Int)),Z_ (.tup [.int (e.1:Int),.lst (dN e.2)]),A]/\z=bQ m a (.lst (dN (lr b (e.2.take j))))
   refine⟨K,⟨_,rfl,rfl⟩,λ_ _ _ _ _=>trivial,?_,?_⟩
   .rintro j d σ z H ⟨A,rfl,rfl⟩;unfold dN at H;obtain⟨x,V,rfl⟩:=VG H;have Z:(lS (D.int (x:Int))).isSome=ZY/\((dN (lr b (e.2.take j))).all λd=>(lS d).isSome)=ZY:=⟨rfl,R9 _⟩
    have O:(dN (lr b (e.2.take j))).length<1000000:=by
     rw[fF];have:=t5 (xj (l:=e.2.take j) t) (r:=bL g.nodes.length) λy R=>by
      rcases C1 R with h|h
      .exact cT.mpr (p y h).1
      .exact cT.mpr (u y (rT h)).1
     rw[qg]at this;lia
    have S:eK (bQ m a (.lst (dN (lr b (e.2.take j))))) (.ref a)=ZZ:=FM;dsimp[eN,S];rw[i0p Z,YM];refine dY (λh=>?_) λh=>?_
    .have h:=PB h;simp only[O,if_true,cy];refine⟨_,rfl,?_⟩;rw[eW V,FW,i0n (by rw[h];exact aB),Mn];rfl
    .have h:=S_ h;refine⟨_,rfl,?_⟩;rw[eW V,FW,i0p h]
   .rintro σ z ⟨A,rfl,rfl⟩;rw[fF,cO];dsimp[];refine⟨g.nodes.length-(at_+1),by lia,at_+1,fuel,lr b e.2,_,_,rfl,rfl,rfl,xj t,λy R=>?_,?_,by lia,?_⟩
    .rcases C1 R with h|h
     .exact p y h
     .exact u y h
    .rw[jQ,aK];lia
    .rw[c]
     congr 1
     rw[jQ,List.drop_append_of_le_length (by lia)]
 .rw[i0n (by simpa using v)];have H:b.drop at_=[]:=AB (by lia);rw[H]at c;have:js g (c9 s g) fuel [] b=b:=by cases fuel<;>rfl
  rw[this]at c;rw[c]at q;exact .new I q
def kz(g:Sg)(l:Lv)(t:List Nat)(i:Nat):List Int:=[((g.nodes.getD i []).length:Int),DM (au l i)]++(match cV g l i with
   |none=>[-1,0]
   |some e=>(e.1:Int)::di (Vberaf.ints (e.2.map λj=>t.findIdx λk=>k==j)))
def Q1{a:List Nat}{j:Nat}(h:j∈a):(dN a).findIdx? (λz=>Pp z (.int (j:Int)))=Z_ (a.findIdx λk=>k==j):=by
 have e:(λz=>Pp z (D.int (j:Int)))∘eN=λk=>k==j:=by
  funext k
  simp only[df,eN,Pp];rw[bW];simp only[beq_iff_eq];lia
 unfold dN;rw[List.findIdx?_map,e];have b:a.findIdx (λk=>k==j)<a.length:=jG ⟨j,h,by simp⟩;rw[List.findIdx?_eq_some_iff_findIdx_eq];exact⟨b,rfl⟩
inductive a6f:Prop|mk s c d room g a i:A'=[.ref c,.lst ((c9 s g).map fX),.lst (dN a),.int ((i:Nat):Int)]->B' c=Z_ (.ins cK (jA room g d))->kW s g->i<g.nodes.length->(au (c9 s g) i).isSome=ZY->(∀e,cV g (c9 s g) i=Z_ e->e.2.length<=1000/\∀j∈e.2,j∈a)->D' (.lst (dI (kz g (c9 s g) a i))) B'->a6f
def Dp:dR (vF a4y a4a) pD a6f:=by
 intro ds m Q h;obtain⟨s,ch,c3,room,g,c,i,rfl,l,hm,r,t,n,q⟩:=h;obtain⟨k,u⟩:=fM.mp t;obtain⟨b,A⟩:∃b,g.nodes[i]?=Z_ b:=⟨_,aj r⟩
 have B:tL (g.nodes.map rP) (i:Int)=Z_ (rP b):=d9 (by simp[A]);have C:tL ((c9 s g).map fX) (i:Int)=Z_ (.int (k:Int)):=by rw[uR (by rwa[kg hm]),u];rfl
 dsimp[vF,pD,aW _ l,BX,B,C];dsimp[rP,ah];refine C0 hm l r u ?_;unfold kz at q;rw[u,aI,A]at q;cases v:cV g (c9 s g) i with
 |none=>
  rw[v]at q;have E:2+2<=1000000:=by decide
  dsimp[PU,E,ah];exact .ret q
 |some e=>
  rw[v]at q;obtain⟨hel,w⟩:=n e v;dsimp[PU,ED,ku,cS,lT,gF,f_,kS,ah];intro a F;refine QZ e.2 eN (λj=>Z_ (eN (c.findIdx λk=>k==j))) rfl (λp=>∃f,p=bQ m a (.lst f)) ⟨_,rfl⟩ (λm' f ⟨x,e⟩=>⟨f,by rw[e,cy]⟩) (λ_ _=>trivial) (λj G p f H o X Y I hY=>?_) λp ⟨z,J⟩ o=>?_
  .have K:(lS (D.int (j:Int))).isSome=ZY/\((dN c).all λd=>(lS d).isSome)=ZY:=⟨rfl,R9 _⟩
   have y:=Q1 (w j G);dsimp[eN,ib];rw[i0p K,y];exact I _ p rfl H o
  .subst J;have L:e.2.filterMap (λj=>Z_ (eN (c.findIdx λk=>k==j)))=dN (e.2.map λj=>c.findIdx λk=>k==j):=by unfold dN;rw[bq];exact rh λ_ _=>rfl
   simp only[L,ia F];refine⟨_,_,rfl,Sb,?_,?_⟩
   .rw[fF,ah];lia
   .have M:3+((dN (e.2.map λj=>c.findIdx λk=>k==j)).length+1)<=1000000:=by rw[fF,ah];lia
    dsimp[M];refine .ret ?_;rwa[<-Al]
structure Dq(s:ae)(g:Sg)(t:List Nat):Prop where
 nd:t.Nodup
 mem:∀i∈t,i<g.nodes.length/\(au (c9 s g) i).isSome=ZY
 clo:∀i∈t,∀e,cV g (c9 s g) i=Z_ e->∀j∈e.2,j∈t
 zero:t.findIdx (λk=>k==0)<t.length
def Dq.len{s}{g:Sg}{t:List Nat}(h:Dq s g t):t.length<=g.nodes.length:=by have:=t5 h.nd (r:=bL g.nodes.length) λx a=>cT.mpr (h.mem x a).1;simpa using this
def zR{s}{g:Sg}(hm:kW s g):∀(fuel at_:Nat) (a:List Nat),a.Nodup->(∀j∈a,j<g.nodes.length/\(au (c9 s g) j).isSome=ZY)->at_<=a.length->fuel+at_=g.nodes.length+1->0∈a ->
  (∀i∈a.take at_,∀e,cV g (c9 s g) i=Z_ e->∀j∈e.2,j∈a)->Dq s g (js g (c9 s g) fuel (a.drop at_) a)
 |fuel,at_,a,d,b,hat,l,t,c=>by
  have hrl:a.length<=g.nodes.length:=by have:=t5 d (r:=bL g.nodes.length) λx f=>cT.mpr (b x f).1;simpa using this
  by_cases u:at_<a.length
  .obtain⟨i,o⟩:∃i,a[at_]?=Z_ i:=⟨_,aj u⟩
   have m:a.drop at_=i::a.drop (at_+1):=by obtain⟨B,rfl⟩:=ax.mp o;exact cf B
   match fuel,l with
   |0,l=>lia
   |fuel+1,l=>
    rw[m];show Dq s g (match cV g (c9 s g) i with
     |none=>js g (c9 s g) fuel (a.drop (at_+1)) a
     |some e=>let p:=lV (e.2.filter λj=>!a.contains j);js g (c9 s g) fuel (a.drop (at_+1)++p) (a++p))
    cases v:cV g (c9 s g) i with
    |none=>
     refine zR hm fuel (at_+1) a d b (by lia) (by lia) t λx f e n=>?_;rw[eW o]at f;rcases aX.mp f with h|h
     .exact c x h e n
     .rw[bb]at h;subst h;rw[v]at n;cases n
    |some e=>
     simp only;rw[<-jQ];have q:=Do hm v;have C:a.drop (at_+1)++lV (e.2.filter λj=>!a.contains j)=(lr a e.2).drop (at_+1):=by rw[jQ,List.drop_append_of_le_length (by lia)]
     rw[C];have k:∀x∈a,x∈lr a e.2:=λx f=>by rw[jQ];exact b9 _ f
     have w:(lr a e.2).take (at_+1)=a.take (at_+1):=by rw[jQ,List.take_append_of_le_length (by lia)]
     refine zR hm fuel (at_+1) (lr a e.2) (xj d) (λy D=>?_) ?_ (by lia) (k 0 t) λx f E n=>?_
     .rcases C1 D with h|h
      .exact b y h
      .exact q y h
     .rw[jQ,aK];lia
     .rw[w,eW o]at f;rcases aX.mp f with h|h
      .exact λj z=>k j (c x h E n j z)
      .rw[bb]at h;subst h;rw[v]at n;cases n;intro j z;rw[jQ];by_cases A:j∈a
       .exact b9 _ A
       .refine cG _ ((Af _).2 j |>.mpr (du.mpr ⟨z,?_⟩));simp[A]
  .have F:a.drop at_=[]:=AB (by lia);rw[F];have G:js g (c9 s g) fuel [] a=a:=by cases fuel<;>rfl
   rw[G];refine⟨d,b,λi o=>c i ?_,jG ⟨0,t,by simp⟩⟩;rwa[qd (by lia)]
def FX{s}{g:Sg}(hm:kW s g)(h:(au (c9 s g) 0).isSome=ZY)(a:0<g.nodes.length):Dq s g (jr g (c9 s g) 0):=by have:=zR hm (g.nodes.length+1) 0 [0] (by simp) (by simpa using ⟨a,h⟩) (by simp) (by lia) (by simp) (by simp);exact this
def Q2(s:ae)(b:List (List Nat))(i:Nat):(iX (bE (a9 s) (ay s) b i)).length<=b.length:=by
 have:=(oz s i b).count;unfold iX;split
 .rwa[ah]
 .exact gj _
def Oi{s}{room:Nat}{b:List (List Nat)}{g}(n:Nat):∀w∈(dB s room b g n).2,w.2.length<=b.length:=by
 induction n with
 |zero=>intro w hw;cases hw
 |succ n a=>
  rw[iC];unfold FS;simp only;have d:=Q2 s b n;generalize iX (bE (a9 s) (ay s) b n)=L at d;intro w hw;cases c:gY (kO s room (dB s room b g n).1 L).2 with
  |none=>rw[c]at hw;exact a w hw
  |some r=>
   rw[c]at hw;simp only at hw;split at hw
   .exact a w hw
   .rcases aX.mp hw with h|h
    .exact a w h
    .rw[bb]at h;subst h;show r.length<=b.length;rwa[zP c,Dh]
def Dr{s}{room:Nat}{d:List (List Nat)}(i:mq s)(j:d.length<=1000):∀(f at_:Nat) (g:Sg),Ah s d g->(∀ws∈g.next,∀w∈ws,w.2.length<=d.length)->∀ws∈(cC (a9 s) (ay s) room f at_ g).next,∀w∈ws,w.2.length<=d.length
 |0,_,_,_,h=>h
 |f+1,at_,g,k,h=>by
  cases e:g.nodes[at_]? with
  |none=>rwa[hZ e]
  |some b=>
   rw[gI e];have c:=aJ e;refine Dr i j f (at_+1) _ (BY i k c j) λws a w hw=>?_;have l:=(lp (s:=s) (room:=room) (b:=b) (x:=b) (g:=g) s.puzzle.doings.length).2.2;have a:ws∈(dB s room b g s.puzzle.doings.length).1.next++[(dB s room b g s.puzzle.doings.length).2]:=a
   rw[l]at a;rcases aX.mp a with h1|h1
   .exact h ws h1 w hw
   .rw[bb]at h1;subst h1;exact c6 (Oi _ w hw) (k.ok b c).2.2
def Oj{s U room b}(a:mq s)(e:rj s U room b):∀ws∈(bC s room b).next,∀w∈ws,w.2.length<=b.length:=
 Dr a e.bok.2.2 (room+1) 0 {nodes:=[b]} ⟨λx c=>by
  have:x=b:=by simpa using c
  subst this;exact⟨e.bok,e.vok,aN _⟩⟩ (by simp)
def Ra{g:Sg}{l}{i:Nat}{e}(h:cV g l i=Z_ e):∃ws∈g.next,e∈ws:=by
 unfold cV at h;split at h
 .have a:=v_ h;rw[aI]at a;cases b:g.next[i]? with
  |none=>rw[b]at a;cases a
  |some ws=>rw[b]at a;exact⟨ws,aJ b,a⟩
 .cases h
def vN(g:Sg)(l:Lv):List Int:=if (au l 0).isNone=ZY then [-4] else
  let t:=jr g l 0
  (t.length:Int)::t.flatMap (kz g l t)
inductive kj:Prop|mk s p U B room:A'=[.ref B.q,.lst [.int ((room:Nat):Int)]]->i_ s p U B B'->rj s U room p.belief->(∀a,Mv B B' a->bT s U B a->D' (.lst (dI (if (bC s room p.belief).over=ZY then [-6] else vN (bC s room p.belief) (c9 s (bC s room p.belief))))) a)->kj
def Lm{g l t}{i:Nat}(h:∀e,cV g l i=Z_ e->e.2.length<=1000):(kz g l t i).length<=1004:=by
 unfold kz;cases a:cV g l i with
 |none=>simp
 |some e=>have:=h e a;simp[di,Vberaf.ints];lia
def Sz{b:List Nat}{f:Nat->List Int}{n:Nat}(h:∀v∈b,(f v).length<=n):(b.flatMap f).length<=n*b.length:=by
 induction b with
 |nil=>simp
 |cons v b a=>rw[lR,aK,aZ];have:=a λw hw=>h w (by simp[hw]);have:=h v (by simp);rw[Nat.mul_add];lia
def C2:dR (u7 a1S a1Z a5W a6f) om kj:=by
 intro ds m Q h;obtain⟨s,p,U,B,room,rfl,c,e,q⟩:=h;dsimp[u7,om,aW _ c.pl.q,gX,gF];refine pG c e λF C G S H D X=>?_;obtain⟨Y,Z,I⟩:=EJ c H S X;have q:=q _ Y Z;have hm:=e.map c.good;have J:=Oj c.good e;have hb:=e.bok.2.2;have hnr:=(xh c.good e.bok e.vok e.r1).2.1;have hr2:=e.r2;dsimp[aW _ D,Ag];refine dY (λh=>?_) λh=>?_
 .rw[i0p h]at q;exact .sub I q
 .rw[i0n (by rw[h];exact aB)]at q;refine oB c.good S.pl D hm ?_;have u:0<(bC s room p.belief).nodes.length:=pH;have K:tL ((c9 s (bC s room p.belief)).map fX) 0=_:=uR (i:=0) (by rwa[kg hm]);dsimp[K];unfold vN at q;generalize bC s room p.belief=g at *;cases z:au (c9 s g) 0 with
  |none=>rw[z]at q;dsimp[fX];exact .sub I q
  |some k=>
   rw[z]at q;simp only[Option.isNone_some,bR,if_false]at q;have l:(au (c9 s g) 0).isSome=ZY:=by rw[z];rfl
   have ok:=FX hm l u;have L:=ok.len;dsimp[fX];refine⟨s,C,G,room,g,rfl,D,hm,by lia,l,?_⟩;generalize jr g (c9 s g) 0=t at q ok L;dsimp[fF];intro a M;have T:C≠a:=by rintro rfl;rw[D]at M;cases M
   have N:∀{o},(bQ F a o) C=Z_ (.ins cK (jA room g G)):=λ{o}=>by rw[ao T];exact D
   rw[dQ];dsimp[cS,f_];have A:∀i,∀r,cV g (c9 s g) i=Z_ r->r.2.length<=1000:=λi r v=>by obtain⟨ws,h1,h2⟩:=Ra v;exact c6 (J ws h1 r h2) hb
   let I1:LI3:=λj σ O=>∃y,σ=[Z_ (.ref B.q),Z_ (.lst [.int (room:Int)]),Z_ (.ref C),Z_ (.lst ((c9 s g).map fX)),Z_ (.lst (dN t)),Z_ (.ref a),y]/\O=bQ F a (.lst (dI ((t.length:Int)::(t.take j).flatMap (kz g (c9 s g) t))))
   refine⟨I1,⟨ZZ,rfl,rfl⟩,λ_ _ _ _ _=>trivial,?_,?_⟩
   .rintro j d σ O V ⟨y,rfl,rfl⟩;unfold dN at V;obtain⟨i,W,rfl⟩:=VG V;have E:=aJ W;obtain⟨o1,o2⟩:=ok.mem i E;dsimp[eN];refine⟨s,C,G,room,g,t,i,rfl,N,hm,o1,o2,λr v=>⟨A i r v,ok.clo i E r v⟩,?_⟩;have P:=Sz (b:=t.take j) (f:=kz g (c9 s g) t) (n:=1004) λw _=>Lm λr v=>A w r v;have R:(dI ((t.length:Int)::(t.take j).flatMap (kz g (c9 s g) t))).length+(dI (kz g (c9 s g) t i)).length<1000000:=by
     have:=Lm (t:=t) (i:=i) λr v=>A i r v;rw[ke,ke,aZ];rw[eM]at P;have:min j t.length<=100:=by lia
     have:=Fi 1004 this;lia
    dsimp[R,cy];refine⟨_,rfl,?_⟩
    congr 2
    rw[eW W,fG];simp[dI]
   .rintro σ O ⟨y,rfl,rfl⟩;rw[fF,cO];dsimp[];refine .out (m0:=jd F C) aS ?_ (λx o h hx=>?_) q
    .rw[gh (aG T)];exact M
    .rw[ao hx];exact I x o h
def qW(sp:dW):Prop:=∀a m Q b,(∀d m,Q d m->b d m)->sp a m Q->sp a m b
def a0f:qW lM:=by rintro ds m Q Q' f ⟨s,A,n,b,e,h1,c,d,g,q⟩;exact⟨s,A,n,b,e,h1,c,d,g,λh a b=>f _ _ (q h a b)⟩
def a0g:qW p_:=by rintro ds m Q Q' f ⟨s,A,c,e,d,g,h,h1,i,j,k,q⟩;exact⟨s,A,c,e,d,g,h,h1,i,j,k,λl a b=>f _ _ (q l a b)⟩
def a0h:qW rH:=by rintro ds m Q Q' f ⟨s,A,c,d,e,h1,g,q⟩;exact⟨s,A,c,d,e,h1,g,λh a b=>f _ _ (q h a b)⟩
def a0i:qW rJ:=by rintro ds m Q Q' f ⟨s,A,v,c,d,e,h1,g,h,q⟩;exact⟨s,A,v,c,d,e,h1,g,h,λi a b=>f _ _ (q i a b)⟩
def a0j:qW rK:=by rintro ds m Q Q' f ⟨s,A,v,lo,c,d,h1,e,g,h,q⟩;exact⟨s,A,v,lo,c,d,h1,e,g,h,λi a b=>f _ _ (q i a b)⟩
def a0k:qW lN:=by rintro ds m Q Q' f ⟨s,A,v,c,d,e,h1,g,h,q⟩;exact⟨s,A,v,c,d,e,h1,g,h,λi a b=>f _ _ (q i a b)⟩
def xk:Nat->Option (ak×dW)
 |1=>Z_ (mD,lM)
 |2=>Z_ (rC,p_)
 |3=>Z_ (tV,rH)
 |4=>Z_ (tW,rJ)
 |5=>Z_ (tX,rK)
 |6=>Z_ (mB,lN)
 |_=>ZZ
def t7(f:ak)(sp:dW):Prop:=∃n,xk n=Z_ (f,sp)
def Ol{n:Nat}{f sp}(h:xk n=Z_ (f,sp)):qW sp:=by
 unfold xk at h;split at h<;>cases h
 .exact a0f
 .exact a0g
 .exact a0h
 .exact a0i
 .exact a0j
 .exact a0k
def YN{n:Nat}{f sp}(h:xk n=Z_ (f,sp)):∃l,nU=.mtup l/\tL l ((n:Int)-1)=Z_ (.ref f):=by
 unfold xk at h;split at h<;>cases h
 .exact⟨_,rfl,d9 (j:=0) rfl⟩
 .exact⟨_,rfl,d9 (j:=1) rfl⟩
 .exact⟨_,rfl,d9 (j:=2) rfl⟩
 .exact⟨_,rfl,d9 (j:=3) rfl⟩
 .exact⟨_,rfl,d9 (j:=4) rfl⟩
 .exact⟨_,rfl,d9 (j:=5) rfl⟩
inductive a5m:Prop|mk (z:D) (n:Nat) (args:D) (f:ak) (b:dW):A'=[z,.int (n:Int),args]->xk n=Z_ (f,b)->b [z,args] B' D'->a5m
def AK:dR (sv t7) mU a5m:=by intro ds m Q h;obtain⟨z,n,args,f,b,rfl,a,q⟩:=h;obtain⟨l,c,e⟩:=YN a;dsimp[sv,mU,CN,c,e];exact⟨b,⟨n,a⟩,Ol a _ _ _ _ (λd m q=>.ret q) q⟩
def ES(g:Sg)(x:List (List Nat)):Prop:=∃y∈g.nodes,∀v∈x,v∈y
def Ww{s}{room:Nat}{g:Sg}{b}(h:(cP (a9 s) room g b).1.over=ZX):g.over=ZX:=by
 unfold cP at h;split at h
 .exact h
 .split at h
  .exact h
  .cases h
nonrec def Q4{s}{room:Nat}{g:Sg}{b:List (List Nat)}(f:∀x∈g.nodes,x.Nodup)(j:b.Nodup)(h:(cP (a9 s) room g b).1.over=ZX):ES (cP (a9 s) room g b).1 b:=by
 unfold cP at h ⊢;cases c:tD (a9 s) g b with
 |some i=>
  simp only;unfold tD at c;simp only at c;split at c
  .rename_i a;cases c;have d:=rV (w:=a);have hm:=fu a;exact⟨_,hm,λv e=>((La (f _ hm) j).mp d).symm.subset e⟩
  .cases c
 |none=>
  rw[c]at h;simp only at h ⊢;split at h
  .rename_i a;rw[i0p a];exact⟨b,by simp,λv e=>e⟩
  .cases h
def UX{s}{room:Nat}{g:Sg}{b:List (List Nat)}(a:∀x∈g.nodes,x.Nodup)(c:b.Nodup):∀x∈(cP (a9 s) room g b).1.nodes,x.Nodup:=λx d=>by
 rcases R5.2.1 d with h|h
 .exact a x h
 .rwa[h]
def Ap{s}{room:Nat}:∀(a:List (List (List Nat))) (g:Sg),(kO s room g a).1.over=ZX->g.over=ZX
 |[],g,h=>h
 |b::r,g,h=>Ww (Ap r _ h)
def Rb{s}{room:Nat}:∀(a:List (List (List Nat))) (g:Sg),(∀x∈g.nodes,x.Nodup)->(∀x∈a,x.Nodup)->∀x∈(kO s room g a).1.nodes,x.Nodup
 |[],g,h,_=>h
 |b::r,g,h,c=>Rb r _ (UX h (c b (by simp))) λx d=>c x (by simp[d])
def FY{s}{room:Nat}:∀(a:List (List (List Nat))) (g:Sg),(∀x∈g.nodes,x.Nodup)->(∀x∈a,x.Nodup)->(kO s room g a).1.over=ZX->∀x∈a,ES (kO s room g a).1 x
 |[],g,_,_,_=>by intro x hx;cases hx
 |b::r,g,h,c,d=>by
  intro x hx;rcases aL.mp hx with e|hx
  .subst e;obtain⟨y,f,i⟩:=Q4 (room:=room) (s:=s) h (c x (by simp)) (Ap r _ d);exact⟨y,(Dj r _).1 f,i⟩
  .exact FY r _ (UX h (c b (by simp))) (λx hx=>c x (by simp[hx])) d x hx
def FZ{s}{room:Nat}{b}{g:Sg}:∀n,(dB s room b g n).1.over=ZX->g.over=ZX
 |0,h=>h
 |n+1,h=>by rw[iC]at h;exact FZ n (Ap _ _ h)
def Ln{s b}{i:Nat}:∀x∈iX (bE (a9 s) (ay s) b i),x.Nodup:=by
 intro x a;unfold iX at a;split at a
 .obtain⟨o,c,rfl⟩:=aF.mp a;exact (oz s i b).nd o c
 .cases a
def ET{s}{room:Nat}{b}{g:Sg}(h:∀x∈g.nodes,x.Nodup):∀n,∀x∈(dB s room b g n).1.nodes,x.Nodup
 |0=>h
 |n+1=>by rw[iC];exact Rb _ _ (ET h n) Ln
def Bp{s}{room:Nat}{b}{g:Sg}(h:∀x∈g.nodes,x.Nodup):∀n,(dB s room b g n).1.over=ZX->∀i<n,∀x∈iX (bE (a9 s) (ay s) b i),ES (dB s room b g n).1 x
 |0,_,i,f,_,_=>by lia
 |n+1,a,i,f,x,d=>by
  rw[iC]at a ⊢;have c:=Ap _ _ a;by_cases e:i=n
  .subst e;exact FY _ _ (ET h _) Ln a x d
  .obtain⟨y,j,k⟩:=Bp h n c i (by lia) x d;exact⟨y,(Dj _ _).1 j,k⟩
def IZ(s:ae)(g:Sg)(at_:Nat):Prop:=∀k b,k<at_->g.nodes[k]?=Z_ b->∀i<s.puzzle.doings.length,∀x∈iX (bE (a9 s) (ay s) b i),ES g x
def vO{s}{room:Nat}:∀(f at_:Nat) (g:Sg),(cC (a9 s) (ay s) room f at_ g).over=ZX->g.over=ZX
 |0,_,_,h=>h
 |f+1,at_,g,h=>by
  cases a:g.nodes[at_]? with
  |none=>rw[hZ a]at h;exact h
  |some b=>rw[gI a]at h;have c:=vO f (at_+1) (vL s room b g) h;exact FZ s.puzzle.doings.length c
def Om{s}{room:Nat}:∀(c:List (List (List Nat))) (g:Sg),∃l,(kO s room g c).1.nodes=g.nodes++l
 |[],g=>⟨[],by simp[kO]⟩
 |b::r,g=>by
  obtain⟨l,e⟩:=Om (s:=s) (room:=room) r (cP (a9 s) room g b).1;have:∃a,(cP (a9 s) room g b).1.nodes=g.nodes++a:=by
   unfold cP;split
   .exact⟨[],by simp⟩
   .split
    .exact⟨[b],rfl⟩
    .exact⟨[],by simp⟩
  obtain⟨a,d⟩:=this;exact⟨a++l,by show (kO s room (cP (a9 s) room g b).1 r).1.nodes=_;rw[e,d,dw]⟩
def I_{s}{room:Nat}{b}{g:Sg}:∀n,∃l,(dB s room b g n).1.nodes=g.nodes++l
 |0=>⟨[],by simp[dB]⟩
 |n+1=>by obtain⟨l,e⟩:=I_ (s:=s) (room:=room) (b:=b) (g:=g) n;obtain⟨a,c⟩:=Om (s:=s) (room:=room) (iX (bE (a9 s) (ay s) b n)) (dB s room b g n).1;rw[iC];exact⟨l++a,by show (kO s room (dB s room b g n).1 _).1.nodes=_;rw[c,e,dw]⟩
def zS{s}{room:Nat}:∀(f at_:Nat) (g:Sg),(∀x∈g.nodes,x.Nodup)->IZ s g at_->at_<=g.nodes.length->g.nodes.length<=room->f+at_=room+1->(cC (a9 s) (ay s) room f at_ g).over=ZX ->
  IZ s (cC (a9 s) (ay s) room f at_ g) (cC (a9 s) (ay s) room f at_ g).nodes.length
 |0,at_,g,_,_,h1,j,r,_=>by lia
 |f+1,at_,g,m,n,h1,j,r,d=>by
  cases c:g.nodes[at_]? with
  |none=>rw[hZ c];have:g.nodes.length<=at_:=List.getElem?_eq_none_iff.mp c;intro k b t a;exact n k b (by lia) a
  |some b=>
   rw[gI c]at d ⊢;have hlt:=(ax.mp c).1;obtain⟨l,u⟩:=I_ (s:=s) (room:=room) (b:=b) (g:=g) s.puzzle.doings.length;have h:(dB s room b g s.puzzle.doings.length).1.over=ZX:=vO f (at_+1) (vL s room b g) d;obtain⟨v,_⟩:=rG (s:=s) (b:=b) j s.puzzle.doings.length;have gr:=ub s room b g s.puzzle.doings.length;refine zS f (at_+1) (vL s room b g) (ET m _) (λk o t a i p x q=>?_) ?_ v (by lia) d
   .have a:(dB s room b g s.puzzle.doings.length).1.nodes[k]?=Z_ o:=a;rw[u,gL (by lia)]at a;by_cases e:k=at_
    .subst e;rw[c]at a;cases a;exact Bp m _ h i p x q
    .obtain⟨y,w,z⟩:=n k o (by lia) a i p x q;exact⟨y,(lp _).1 w,z⟩
   .show at_+1<=(dB s room b g s.puzzle.doings.length).1.nodes.length;lia
def Rc{α:Type}[DecidableEq α]:∀{l r:List α},l.Nodup->(∀x∈l,x∈r)->l.length<=r.length
 |[],_,_,_=>gj _
 |x::l,r,b,c=>by
  have d:x∈r:=c x (by simp);have:=Rc (l:=l) (r:=r.erase x) (bX.mp b).2 λy f=>by
   have a:y≠x:=by intro e;subst e;exact (bX.mp b).1 f
   exact (Co a).mpr (c y (by simp[f]))
  rw[ya d]at this;have hp:0<r.length:=AC d;rw[aZ];lia
structure J0(g:mh)(δ:Nat->Option Nat):Prop where
 zero:∀i,i<dj g->(δ i=Z_ 0↔G9 g i=ZY)
 pred:∀i k,i<dj g->δ i=Z_ (k+1)->∃e∈mi g i,δ e.2=Z_ k
 close:∀i,i<dj g->∀e∈mi g i,∀k,δ e.2=Z_ k->∃j,δ i=Z_ j/\j<=k+1
 inS:∀i,i<dj g->∀e∈mi g i,e.2<dj g
def MM(δ:Nat->Option Nat)(n i:Nat):Option Nat:=match δ i with
 |some k=>if k<n then Z_ k else ZZ
 |none=>ZZ
def lO{δ}{n i k:Nat}:MM δ n i=Z_ k↔δ i=Z_ k/\k<n:=by
 unfold MM;cases h:δ i with
 |none=>simp
 |some j=>
  simp only[iY];by_cases a:j<n
  .rw[i0p a];constructor
   .intro e;cases e;exact⟨rfl,a⟩
   .intro e;rw[e.1]
  .rw[i0n a];constructor
   .intro e;cases e
   .rintro⟨rfl,b⟩;exact absurd b a
def T1(g:mh)(δ:Nat->Option Nat)(n:Nat):qZ:=(bL (dj g)).map (MM δ n)
def zT{g f}{i:Nat}(h:i<dj g):au ((bL (dj g)).map f) i=f i:=by unfold au;rw[aI,aR,List.getElem?_range h];rfl
def Re(l:qZ):∀(q:List (Nat×Nat)) (acc:Option Nat),
  let r:=q.foldl (λm e=>let n:=(au l e.2).map λk=>k+1;if cF n m=ZY then n else m) acc
  (∀k,r=Z_ k->(acc=Z_ k\/∃e∈q,∃j,au l e.2=Z_ j/\k=j+1))/\(∀k,acc=Z_ k->∃j,r=Z_ j/\j<=k)/\(∀e∈q,∀j,au l e.2=Z_ j->∃k,r=Z_ k/\k<=j+1)
 |[],acc=>⟨λk h=>.inl h,λk h=>⟨k,h,aN _⟩,λe he=>absurd he (by simp)⟩
 |e::q,acc=>by
  have t:=Re l q (let n:=(au l e.2).map λk=>k+1;if cF n acc=ZY then n else acc);simp only[d5]at t ⊢;obtain⟨i,g,o⟩:=t;cases p:au l e.2 with
  |none=>
   simp only[p,A2,cF,bR,if_false]at i g o ⊢;refine⟨λk h=>?_,g,λd c j f=>?_⟩
   .rcases i k h with h1|⟨d,c,h1⟩
    .exact .inl h1
    .exact .inr ⟨d,ba _ c,h1⟩
   .rcases aL.mp c with h1|h1
    .rw[h1,p]at f;cases f
    .exact o d h1 j f
  |some a=>
   simp only[p,dZ]at i g o ⊢;by_cases s:cF (Z_ (a+1)) acc=ZY
   .rw[i0p s]at i g o ⊢;refine⟨λk h=>?_,λk h=>?_,λd c j f=>?_⟩
    .rcases i k h with h1|⟨d,c,h1⟩
     .exact .inr ⟨e,bG,a,p,(az h1).symm⟩
     .exact .inr ⟨d,ba _ c,h1⟩
    .obtain⟨j,h1,u⟩:=g _ rfl;subst h;simp only[cF,decide_eq_true_eq]at s;exact⟨j,h1,by lia⟩
    .rcases aL.mp c with h1|h1
     .rw[h1,p]at f;cases f;exact g _ rfl
     .exact o d h1 j f
   .rw[i0n s]at i g o ⊢;refine⟨λk h=>?_,g,λd c j f=>?_⟩
    .rcases i k h with h1|⟨d,c,h1⟩
     .exact .inl h1
     .exact .inr ⟨d,ba _ c,h1⟩
    .rcases aL.mp c with h1|h1
     .rw[h1,p]at f;cases f;cases acc with
      |none=>simp[cF]at s
      |some b=>simp only[cF,decide_eq_true_eq]at s;obtain⟨k,u,h3⟩:=g b rfl;exact⟨k,u,by lia⟩
     .exact o d h1 j f
def SA{g δ}(h:J0 g δ)(n:Nat):Vberab.round g (T1 g δ n)=T1 g δ (n+1):=by
 unfold Vberab.round;conv=>rhs;unfold T1
 refine bO λi c=>?_;have c:i<dj g:=cT.mp c;by_cases f:G9 g i=ZY
 .rw[i0p f];exact (lO.mpr ⟨(h.zero i c).mpr f,Nat.succ_pos _⟩).symm
 .rw[i0n f];obtain⟨m,u,q⟩:=Re (T1 g δ n) (mi g i) ZZ;have o:∀e∈mi g i,au (T1 g δ n) e.2=MM δ n e.2:=λe hm=>zT (h.inS i c e hm);generalize (mi g i).foldl _ _=r at m u q;cases s:MM δ (n+1) i with
  |some k=>
   obtain⟨d1,d2⟩:=lO.mp s;cases k with
   |zero=>exact absurd ((h.zero i c).mp d1) f
   |succ k=>
    obtain⟨e,hm,v⟩:=h.pred i k c d1;obtain⟨w,t,r2⟩:=q e hm k (by rw[o e hm];exact lO.mpr ⟨v,by lia⟩);rcases m w t with x|⟨d,a,j,b,y⟩
    .cases x
    .rw[o d a]at b;obtain⟨b,z⟩:=lO.mp b;obtain⟨p,l,A⟩:=h.close i c d a j b;rw[d1]at l;cases l;rw[t]
     congr 1
     lia
  |none=>
   cases B:r with
   |none=>rfl
   |some k=>
    exfalso;rcases m k B with x|⟨d,a,j,b,y⟩
    .cases x
    .rw[o d a]at b;obtain⟨b,z⟩:=lO.mp b;obtain⟨p,l,A⟩:=h.close i c d a j b;have:=lO.mpr (⟨l,by lia⟩:δ i=Z_ p/\p<n+1);rw[s]at this;cases this
def On{g δ}(h:J0 g δ){n:Nat}(e:∀i,i<dj g->δ i≠Z_ n):∀k i,i<dj g->δ i=Z_ (n+k)->False
 |0,i,a,b=>e i a b
 |k+1,i,a,b=>by obtain⟨x,hm,c⟩:=h.pred i (n+k) a b;exact On h e k x.2 (h.inS i a x hm) c
def F_{g δ}(h:J0 g δ):∀(f n:Nat) (W:List Nat),W.length=n->W.Nodup->(∀i∈W,i<dj g/\∃k,δ i=Z_ k/\k<n)->f+n=dj g+1 ->
  Vberab.settled g f (T1 g δ n)=(bL (dj g)).map δ
 |0,n,W,r,p,hw,t=>by have:W.length<=(bL (dj g)).length:=Rc p λx u=>cT.mpr (hw x u).1;rw[qg]at this;lia
 |f+1,n,W,r,p,hw,t=>by
  unfold Vberab.settled;simp only;rw[SA h];by_cases o:∃i,i<dj g/\δ i=Z_ n
  .obtain⟨i,d,m⟩:=o;rw[i0n]
   .refine F_ h f (n+1) (i::W) (by simp[r]) (bX.mpr ⟨λhm=>?_,p⟩) (λj v=>?_) (by lia)
    .obtain⟨_,k,s,e2⟩:=hw i hm;rw[m]at s;cases s;lia
    .rcases aL.mp v with e|e
     .subst e;exact⟨d,n,m,by lia⟩
     .obtain⟨a,k,b,c⟩:=hw j e;exact⟨a,k,b,by lia⟩
   .intro w;have h1:=congrArg (λl=>au l i) w;simp only[T1,zT d]at h1;rw[lO.mpr ⟨m,rL n⟩]at h1;have:=(lO.mp h1.symm).2;lia
  .have o:∀i,i<dj g->δ i≠Z_ n:=λi d e=>o ⟨i,d,e⟩;have q:T1 g δ n=(bL (dj g)).map δ:=by
    unfold T1;refine bO λi d=>?_;have d:=cT.mp d;cases m:δ i with
    |none=>unfold MM;rw[m]
    |some k=>
     refine lO.mpr ⟨m,?_⟩;rcases AY k n with h1|h1
     .exact h1
     .exact (On h o (k-n) i d (by rw[m];congr 1;lia)).elim
   rw[i0p,q];unfold T1;refine bO λi d=>?_;have d:=cT.mp d;cases m:δ i with
   |none=>simp only[MM,m]
   |some k=>
    simp only[MM,m];have:k≠n:=λe=>o i d (by rw[m,e]);by_cases h1:k<n
    .rw[i0p h1,i0p (by lia)]
    .rw[i0n h1,i0n (by lia)]
def Oo{g δ}(h:J0 g δ):jH g=(bL (dj g)).map δ:=by
 unfold jH;have:((bL (dj g)).map λ_=>(ZZ:Option Nat))=T1 g δ 0:=by
  unfold T1;refine bO λi _=>?_;unfold MM;cases δ i with
  |none=>rfl
  |some k=>simp
 rw[this];exact F_ h _ 0 [] rfl v7 (by simp) (by lia)
abbrev VV:=List Nat
def kQ(R:List VV)(w:VV):List VV:=if R.contains w=ZY then R else R++[w]
def vP(R:List VV)(w:VV):Nat:=R.findIdx λx=>x==w
def J3{R l w}(h:w∈R):vP (R++l) w=vP R w:=by unfold vP;rw[List.findIdx_append,i0p];exact jG ⟨w,h,by simp⟩
def Hj{R:List VV}{w}(h:w∈R):vP R w<R.length:=jG ⟨w,h,by simp⟩
def UY{R w}(h:w∈R):R[vP R w]?=Z_ w:=by
 have h1:=Hj h;rw[aj h1];have:=rV (xs:=R) (p:=λx=>x==w) (w:=h1)
 congr 1
 exact (by simpa using this:R[R.findIdx λx=>x==w]=w)
def UZ{R:List VV}{w}(h:w∉R):vP (R++[w]) w=R.length:=by
 unfold vP;rw[List.findIdx_append,i0n]
 .simp
 .intro h1;have:=rV (xs:=R) (p:=λx=>x==w) (w:=h1);exact h (by have e:R[R.findIdx λx=>x==w]=w:=(by simpa using this);rw[<-e];exact fu _)
def Oq(R:List VV)(w:VV):∃l,kQ R w=R++l:=by
 unfold kQ;split
 .exact⟨[],by simp⟩
 .exact⟨[w],rfl⟩
nonrec def U_(R:List VV)(w:VV):w∈kQ R w:=by
 unfold kQ;split
 .rename_i h;simpa using h
 .simp
nonrec def Wx{R:List VV}{w}(h:R.Nodup):(kQ R w).Nodup:=by
 unfold kQ;split
 .exact h
 .rename_i h1;rw[eE];exact⟨h,by simp,λa d b c e=>by simp at c;subst c;subst e;exact h1 (by simpa using d)⟩
def jh(R:List VV)(ws:List VV):List VV:=ws.foldl kQ R
def rR:∀(ws:List VV) (R:List VV),∃l,jh R ws=R++l
 |[],R=>⟨[],by simp[jh]⟩
 |w::ws,R=>by obtain⟨a,b⟩:=Oq R w;obtain⟨c,d⟩:=rR ws (kQ R w);exact⟨a++c,by rw[show jh R (w::ws)=jh (kQ R w) ws from rfl,d,b,dw]⟩
def Lo:∀{ws:List VV} {R:List VV} {w:VV},w∈ws->w∈jh R ws
 |x::ws,R,w,h=>by
  rcases aL.mp h with e|e
  .subst e;obtain⟨l,a⟩:=rR ws (kQ R w);rw[show jh R (w::ws)=jh (kQ R w) ws from rfl,a];exact b9 _ (U_ R w)
  .exact Lo (R:=kQ R x) e
def Os:∀{ws:List VV} {R:List VV},R.Nodup->(jh R ws).Nodup
 |[],_,h=>h
 |x::ws,R,h=>Os (ws:=ws) (Wx h)
abbrev t8:=Vberab.Map VV
def cn(m:t8):List VV:=m.nodes.map λn=>n.state
def J4{s m w}:Vberab.place (a9 s) m w=if w∈cn m then Z_ (vP (cn m) w) else ZZ:=by
 unfold Vberab.place;have e:(m.nodes.findIdx λn=>(a9 s).key n.state==(a9 s).key w)=vP (cn m) w:=by unfold vP cn;rw[List.findIdx_map];rfl
 simp only;rw[e];have a:m.nodes.length=(cn m).length:=by unfold cn;simp
 by_cases h:w∈cn m
 .rw[i0p h,a,i0p (Hj h)]
 .rw[i0n h,a,i0n];intro h1;have:=rV (xs:=cn m) (p:=λx=>x==w) (w:=h1);exact h (by have e:(cn m)[(cn m).findIdx λx=>x==w]=w:=(by simpa using this);rw[<-e];exact fu _)
def EU{s}{k i:Nat}:∀(as:List (Nat×VV)) (x:t8×List (Nat×Nat)),x.1.over=ZY->(as.foldl (c_ (a9 s) k i) x).1.over=ZY
 |[],x,h=>h
 |a::as,x,h=>by
  refine EU as _ ?_;unfold c_;split
  .exact h
  .split
   .exact h
   .rfl
def EV{s}{i:Nat}:∀(as:List (Nat×VV)) (m:t8) (b:List (Nat×Nat)),m.over=ZX->(cn m).length<=200 ->
  let e:=jh (cn m) (as.map λa=>a.2)
  let y:=as.foldl (c_ (a9 s) 200 i) (m,b)
  (e.length<=200->y.1.over=ZX/\cn y.1=e/\y.1.next=m.next/\y.2=b++as.map λa=>(a.1,vP e a.2))/\(200<e.length->y.1.over=ZY)
 |[],m,b,f,k=>by exact⟨λ_=>⟨f,rfl,rfl,by simp⟩,λh=>by exact absurd k (Nat.not_le_of_lt h)⟩
 |a::as,m,b,f,k=>by
  have t:jh (cn m) ((a::as).map λa=>a.2)=jh (kQ (cn m) a.2) (as.map λa=>a.2):=rfl;simp only[t,d5];have hlen:m.nodes.length=(cn m).length:=by unfold cn;simp
  by_cases hm:a.2∈cn m
  .have g:kQ (cn m) a.2=cn m:=by unfold kQ;rw[i0p (by simpa using hm)]
   have c:c_ (a9 s) 200 i (m,b) a=(m,b++[(a.1,vP (cn m) a.2)]):=by unfold c_;simp only[J4,i0p hm]
   rw[c,g];obtain⟨h1,j⟩:=EV as m (b++[(a.1,vP (cn m) a.2)]) f k;refine⟨λh=>?_,j⟩;obtain⟨n,o,p,q⟩:=h1 h;refine⟨n,o,p,?_⟩;rw[q];obtain⟨l,d⟩:=rR (as.map λa=>a.2) (cn m);rw[d,aQ,J3 hm];simp
  .have g:kQ (cn m) a.2=cn m++[a.2]:=by unfold kQ;rw[i0n (by simpa using hm)]
   by_cases hr:(cn m).length<200
   .have c:c_ (a9 s) 200 i (m,b) a=({m with nodes:=m.nodes++[{state:=a.2,from_:=i,act:=a.1}]},b++[(a.1,m.nodes.length)]):=by
     unfold c_;simp only[J4,i0n hm];rw[i0p (by lia)]
    have r:cn {m with nodes:=m.nodes++[{state:=a.2,from_:=i,act:=a.1}]}=cn m++[a.2]:=by unfold cn;simp
    rw[c,g];obtain⟨h1,j⟩:=EV as {m with nodes:=m.nodes++[{state:=a.2,from_:=i,act:=a.1}]} (b++[(a.1,m.nodes.length)]) f (by rw[r];simp;lia);rw[r]at h1 j;refine⟨λh=>?_,j⟩;obtain⟨n,o,p,q⟩:=h1 h;refine⟨n,o,p,?_⟩;rw[q];obtain⟨l,d⟩:=rR (as.map λa=>a.2) (cn m++[a.2]);rw[d,aQ,J3 (by simp),UZ hm,hlen];simp
   .have c:c_ (a9 s) 200 i (m,b) a=({m with over:=ZY},b):=by
     unfold c_;simp only[J4,i0n hm];rw[i0n (by lia)]
    rw[c,g];refine⟨λh=>?_,λ_=>EU as _ rfl⟩;obtain⟨l,d⟩:=rR (as.map λa=>a.2) (cn m++[a.2]);rw[d]at h;simp at h;lia
abbrev qv(s:ae)(v:VV):List (Nat×VV):=(a9 s).acts v
def EW(s:ae)(R:List VV)(v:VV):List (Nat×Nat):=(qv s v).map λa=>(a.1,vP R a.2)
structure J5(s:ae)(m:t8)(i:Nat):Prop where
 over:m.over=ZX
 len:(cn m).length<=200
 nd:(cn m).Nodup
 le:i<=(cn m).length
 next:m.next=((cn m).take i).map (EW s (cn m))
 cl:∀v∈(cn m).take i,∀a∈qv s v,a.2∈cn m
def Ds(s:ae)(R:List VV)(v:VV):List VV:=jh R ((qv s v).map λa=>a.2)
def Lp(s:ae)(i:Nat)(m:t8)(v:VV):t8:=let y:=(qv s v).foldl (c_ (a9 s) 200 i) (m,[]);{y.1 with next:=y.1.next++[y.2]}
abbrev Gu(s:ae):=e_ (a9 s) 200
def Aq{s}{f i:Nat}{m v}(h:(cn m)[i]?=Z_ v):Gu s (f+1) i m=Gu s f (i+1) (Lp s i m v):=by
 unfold cn at h;rw[aR]at h;cases a:m.nodes[i]? with
 |none=>rw[a]at h;cases h
 |some x=>rw[a]at h;cases az h;show e_ (a9 s) 200 (f+1) i m=_;rw[e_];simp only[a];rfl
def Dt{s}{f i:Nat}{m}(h:(cn m).length<=i):Gu s f i m=m:=by
 have a:m.nodes[i]?=ZZ:=cv (by unfold cn at h;simpa using h);cases f with
 |zero=>rfl
 |succ f=>show e_ (a9 s) 200 (f+1) i m=_;rw[e_];simp only[a]
def EX{s}:∀(f i:Nat) (m:t8),m.over=ZY->(Gu s f i m).over=ZY
 |0,_,m,h=>h
 |f+1,i,m,h=>by
  show (e_ (a9 s) 200 (f+1) i m).over=ZY;rw[e_];split
  .exact h
  .exact EX f _ _ (EU _ (m,[]) h)
def Lq{s}{k i:Nat}:∀(as:List (Nat×VV)) (x:t8×List (Nat×Nat)),∃l,cn (as.foldl (c_ (a9 s) k i) x).1=cn x.1++l
 |[],x=>⟨[],by simp⟩
 |a::as,x=>by
  obtain⟨l,e⟩:=Lq (s:=s) (k:=k) (i:=i) as (c_ (a9 s) k i x a);rw[d5,e];unfold c_;split
  .exact⟨l,rfl⟩
  .split
   .exact⟨[a.2]++l,by simp[cn]⟩
   .exact⟨l,rfl⟩
nonrec def EY{s}:∀(f i:Nat) (m:t8),∃l,cn (Gu s f i m)=cn m++l
 |0,_,m=>⟨[],by simp[Gu,e_]⟩
 |f+1,i,m=>by
  show ∃l,cn (e_ (a9 s) 200 (f+1) i m)=cn m++l;rw[e_];split
  .exact⟨[],by simp⟩
  .rename_i x hx;obtain⟨b,c⟩:=Lq (s:=s) (k:=200) (i:=i) ((a9 s).acts x.state) (m,[]);obtain⟨a,d⟩:=EY (s:=s) f (i+1) {((((a9 s).acts x.state).foldl (c_ (a9 s) 200 i) (m,[])).1) with next:=((((a9 s).acts x.state).foldl (c_ (a9 s) 200 i) (m,[])).1).next++[(((a9 s).acts x.state).foldl (c_ (a9 s) 200 i) (m,[])).2]};refine⟨b++a,?_⟩;refine d.trans ?_;show cn (((a9 s).acts x.state).foldl (c_ (a9 s) 200 i) (m,[])).1++a=_;rw[c,dw]
def J5.step{s m}{i:Nat}{v}(h:J5 s m i)(d:(cn m)[i]?=Z_ v):
  ((Ds s (cn m) v).length<=200->J5 s (Lp s i m v) (i+1)/\cn (Lp s i m v)=Ds s (cn m) v)/\(200<(Ds s (cn m) v).length->(Lp s i m v).over=ZY):=by
 obtain⟨h1,j⟩:=EV (s:=s) (i:=i) (qv s v) m [] h.over h.len;refine⟨λf=>?_,j⟩;obtain⟨k,n,o,p⟩:=h1 f;have e:cn (Lp s i m v)=Ds s (cn m) v:=n;have hi:i<(cn m).length:=(ax.mp d).1;obtain⟨l,b⟩:=rR ((qv s v).map λa=>a.2) (cn m);have b:Ds s (cn m) v=cn m++l:=b;have g:(cn m++l).take (i+1)=(cn m).take i++[v]:=by rw[List.take_append_of_le_length (by lia),List.take_succ,d];rfl
 refine⟨⟨k,by rwa[e],by rw[e];exact Os h.nd,by rw[e,b];simp;lia,?_,?_⟩,e⟩
 .show ((qv s v).foldl (c_ (a9 s) 200 i) (m,[])).1.next++[((qv s v).foldl (c_ (a9 s) 200 i) (m,[])).2]=_
  rw[o,p,e,b,g,bU,h.next]
  congr 1
  .refine bO λw hw=>?_;unfold EW;refine bO λa c=>?_;rw[J3 (h.cl w hw a c)]
  .show [[]++_]=[EW s (cn m++l) v]
   rw[oP,<-b];rfl
 .rw[e,b,g];intro w hw a c;rcases aX.mp hw with h3|h3
  .exact b9 _ (h.cl w h3 a c)
  .rw[bb]at h3;subst h3;rw[<-b];exact Lo (aF.mpr ⟨a,c,rfl⟩)
def ir(s:ae)(v:VV):t8:=Vberab.explore (a9 s) 200 v
def Xa(s:ae)(v:VV):J5 s {nodes:=[{state:=v,from_:=0,act:=0}]} 0:=⟨rfl,by simp[cn],by simp[cn],gj _,by simp,by simp⟩
abbrev EE:=List (VV×Nat)
def iD(E:EE)(v:VV):Option Nat:=(E.find? λe=>e.1==v).map λe=>e.2
def pI{E:EE}{v}{k:Nat}(a:(E.map λe=>e.1).Nodup):iD E v=Z_ k↔(v,k)∈E:=by
 unfold iD;induction E with
 |nil=>simp
 |cons x E b=>
  rw[aQ,bX]at a;by_cases h:x.1=v
  .rw[eI (by simpa using h)];simp only[dZ,iY,aL];constructor
   .intro e;left;rw[<-h,<-e]
   .rintro (e|e)
    .rw[<-e]
    .exact absurd (aF.mpr ⟨_,e,h.symm⟩) a.1
  .rw[d6 (by simpa using h),b a.2,aL];constructor
   .exact .inr
   .rintro (e|e)
    .exact absurd (by rw[<-e]) h
    .exact e
def J6{E:EE}{v}:iD E v=ZZ↔v∉E.map λe=>e.1:=by
 unfold iD;rw[yt,kZ];constructor
 .intro h hm;obtain⟨e,a,b⟩:=aF.mp hm;exact h e a (by simpa using b)
 .intro h e a b;exact h (aF.mpr ⟨e,a,by simpa using b⟩)
def AL(d:Nat)(E:EE)(y:VV):EE:=if (E.map λe=>e.1).contains y=ZY then E else E++[(y,d)]
def xT(d:Nat)(E:EE)(ps:List VV):EE:=ps.foldl (AL d) E
def t9(d:Nat):∀(ps:List VV) (E:EE),(E.map λe=>e.1).Nodup->∃l,xT d E ps=E++l/\(∀e∈l,e.2=d/\e.1∈ps/\e.1∉E.map λe=>e.1)/\((E++l).map λe=>e.1).Nodup/\∀y∈ps,y∈(E++l).map λe=>e.1
 |[],E,c=>⟨[],by simp[xT],by simp,by simpa using c,by simp⟩
 |y::ps,E,c=>by
  by_cases h:y∈E.map λe=>e.1
  .have i:AL d E y=E:=by unfold AL;rw[i0p (by simpa using h)]
   obtain⟨l,j,k,f,g⟩:=t9 d ps E c;refine⟨l,by rw[<-j];show xT d (AL d E y) ps=_;rw[i],λe m=>?_,f,λz n=>?_⟩
   .obtain⟨o,p,q⟩:=k e m;exact⟨o,ba _ p,q⟩
   .rcases aL.mp n with e|e
    .subst e;rw[bU];exact b9 _ h
    .exact g z e
  .have i:AL d E y=E++[(y,d)]:=by unfold AL;rw[i0n (by simpa using h)]
   have r:((E++[(y,d)]).map λe=>e.1).Nodup:=by rw[bU,eE];exact⟨c,by simp,λa t b s e=>by simp at s;subst s;subst e;exact h t⟩
   obtain⟨l,j,k,f,g⟩:=t9 d ps (E++[(y,d)]) r;refine⟨(y,d)::l,?_,λe m=>?_,?_,λz n=>?_⟩
   .show xT d (AL d E y) ps=_;rw[i,j,dw];rfl
   .rcases aL.mp m with e2|e2
    .subst e2;exact⟨rfl,bG,h⟩
    .obtain⟨o,p,q⟩:=k e e2;exact⟨o,ba _ p,λhm=>q (by rw[bU];exact b9 _ hm)⟩
   .rw[dw]at f;exact f
   .rw[dw]at g;rcases aL.mp n with e|e
    .subst e;simp
    .exact g z e
abbrev uT(s:ae)(v:VV):Bool:=(a9 s).won v
structure V0(s:ae)(R:List VV)(pr:VV->List VV):Prop where
 inR:∀w,∀v∈pr w,v∈R/\(v=w\/∃a∈qv s v,a.2=w)
 all:∀v∈R,∀a∈qv s v,v∈pr a.2
structure C3(s:ae)(R:List VV)(E:EE)(i:Nat):Prop where
 nd:(E.map λe=>e.1).Nodup
 inR:∀e∈E,e.1∈R
 zero:∀v∈R,uT s v=ZY->(v,0)∈E
 won:∀v,(v,0)∈E->uT s v=ZY
 pred:∀v k,(v,k+1)∈E->∃a∈qv s v,(a.2,k)∈E
 sorted:E.Pairwise λa b=>a.2<=b.2
 top:∀x,E[i]?=Z_ x->∀e∈E,e.2<=x.2+1
 cl:∀j x,j<i->E[j]?=Z_ x->∀y∈R,(∃a∈qv s y,a.2=x.1)->∃k,(y,k)∈E/\k<=x.2+1
def C3.first{s}{R:List VV}(c:R.Nodup):C3 s R ((R.filter (uT s)).map λv=>(v,0)) 0:=by
 have e:∀v k,(v,k)∈(R.filter (uT s)).map (λv=>(v,0))↔k=0/\v∈R/\uT s v=ZY:=by
  intro v k;constructor
  .intro h;obtain⟨w,hw,d⟩:=aF.mp h;injection d with f g
   subst f;exact⟨g.symm,(du.mp hw).1,(du.mp hw).2⟩
  .rintro⟨rfl,h1,a⟩;exact aF.mpr ⟨v,du.mpr ⟨h1,a⟩,rfl⟩
 refine⟨?_,λx b=>((e x.1 x.2).mp b).2.1,λv h1 a=>(e v 0).mpr ⟨rfl,h1,a⟩,λv h=>((e v 0).mp h).2.2,λv k h=>absurd ((e v _).mp h).1 (by lia),?_,λx b y i=>by have:=((e y.1 y.2).mp i).1;lia,λj x hj=>by lia⟩
 .rw[bq];have:(R.filter (uT s)).map ((λe:VV×Nat=>e.1)∘λv=>(v,0))=R.filter (uT s):=by
   conv=>rhs;rw[<-Cn (R.filter (uT s))]
   rfl
  rw[this];exact c.filter _
 .rw[List.pairwise_map];exact AZ (λ_=>aN _) (List.pairwise_of_forall (λ_ _=>trivial):(R.filter (uT s)).Pairwise λ_ _=>True)
def C3.step{s R t E}{i:Nat}{x:VV×Nat}(u:V0 s R t)(h:C3 s R E i)(g:E[i]?=Z_ x):C3 s R (xT (x.2+1) E (t x.1)) (i+1):=by
 obtain⟨l,M,d,N,O⟩:=t9 (x.2+1) (t x.1) E h.nd;rw[M];have w:=(ax.mp g).1;have p:(x.1,x.2)∈E:=aJ g;have f:∀j y,(E++l)[j]?=Z_ y->j<E.length->E[j]?=Z_ y:=λj y c I=>by rwa [gL I]at c
 refine⟨N,λe m=>?_,λv h1 A=>b9 _ (h.zero v h1 A),λv B=>?_,λv k B=>?_,?_,λy c e m=>?_,λj y I c z J n=>?_⟩
 .rcases aX.mp m with h1|h1
  .exact h.inR e h1
  .exact (u.inR _ _ (d e h1).2.1).1
 .rcases aX.mp B with h1|h1
  .exact h.won v h1
  .exact absurd (d _ h1).1 (by simp only;lia)
 .rcases aX.mp B with h1|h1
  .obtain⟨a,q,o⟩:=h.pred v k h1;exact⟨a,q,b9 _ o⟩
  .obtain⟨q,o,K⟩:=d _ h1;simp only at q o K;rcases (u.inR _ _ o).2 with e|⟨a,C,D⟩
   .exact absurd (aF.mpr ⟨_,p,e.symm⟩) K
   .refine⟨a,C,b9 _ ?_⟩;rwa[D,show k=x.2 by lia]
 .rw[Cp];refine⟨h.sorted,?_,λa n b F=>?_⟩
  .refine List.Pairwise.imp_of_mem (R:=λ_ _=>True) (λ{a b} n F _=>?_) (List.pairwise_of_forall λ_ _=>trivial);rw[(d a n).1,(d b F).1];exact aN _
  .rw[(d b F).1];exact h.top x g a n
 .have he2:e.2<=x.2+1:=by
   rcases aX.mp m with h1|h1
   .exact h.top x g e h1
   .rw[(d e h1).1];exact aN _
  have hy2:x.2<=y.2:=by
   have hm:=aJ c;by_cases L:i+1<E.length
   .have A:=f _ _ c L;have:=vZ.mp h.sorted i (i+1) w L (rL i);rw[(ax.mp g).2,(ax.mp A).2]at this;exact this
   .rw[u_ (by lia)]at c;have:=(d y (aJ c)).1;lia
  lia
 .have G:j<E.length:=by lia
  have c:=f j y c G;by_cases H:j<i
  .obtain⟨k,q,o⟩:=h.cl j y H c z J n;exact⟨k,b9 _ q,o⟩
  .have:j=i:=by lia
   subst this;rw[g]at c;cases c;obtain⟨a,C,D⟩:=n;have r:=u.all z J a C;rw[D]at r;obtain⟨e,m,P⟩:=aF.mp (O z r);refine⟨e.2,by rwa[<-P],?_⟩;rcases aX.mp m with h1|h1
   .exact h.top x g e h1
   .rw[(d e h1).1];exact aN _
def V1{s}{R:List VV}{E:EE}{i:Nat}(h:C3 s R E i):E.length<=R.length:=by
 have:=Rc h.nd λx a=>by obtain⟨e,b,rfl⟩:=aF.mp a;exact h.inR e b
 rwa [ah]at this
def Bq(R:List VV)(E:EE)(i:Nat):Option Nat:=(R[i]?).bind (iD E)
structure MN(s:ae)(R:List VV):Prop where
 nd:R.Nodup
 cl:∀v∈R,∀a∈qv s v,a.2∈R
def km(s:ae)(R:List VV):mh:={ends:=R.map (uT s),next:=R.map (EW s R)}
def V2{s m}{i:Nat}(h:J5 s m i)(a:i=(cn m).length):Vberab.graph (a9 s) m=km s (cn m):=by
 unfold Vberab.graph km;rw[h.next,a,cO]
 congr 1
 unfold cn;rw[bq];rfl
def SB{s m}{i:Nat}(h:J5 s m i)(a:i=(cn m).length):MN s (cn m):=by refine⟨h.nd,λv b=>h.cl v ?_⟩;rwa[a,cO]
def Q5{s}{R:List VV}:dj (km s R)=R.length:=by unfold dj km;simp
def Hk{s R}{i:Nat}{v}(h:R[i]?=Z_ v):mi (km s R) i=EW s R v:=by unfold mi km;rw[aI,aR,h];rfl
def a0l{s R}{i:Nat}{v}(h:R[i]?=Z_ v):G9 (km s R) i=uT s v:=by unfold G9 km;rw[aI,aR,h];rfl
def J7{R E w}(h:w∈R):Bq R E (vP R w)=iD E w:=by unfold Bq;rw[UY h];rfl
def Wy{s R}{E:EE}(l:MN s R)(h:C3 s R E E.length):J0 (km s R) (Bq R E):=by
 have g:∀i,i<dj (km s R)->∃v,R[i]?=Z_ v:=λi c=>by rw[Q5]at c;exact⟨_,aj c⟩
 have m:∀{i v},R[i]?=Z_ v->Bq R E i=iD E v:=λ{i v} e=>by unfold Bq;rw[e];rfl
 refine⟨λi c=>?_,λi k c o=>?_,λi c e f k p=>?_,λi c e f=>?_⟩
 .obtain⟨v,b⟩:=g i c;rw[m b,pI h.nd,a0l b];exact⟨h.won v,h.zero v (aJ b)⟩
 .obtain⟨v,b⟩:=g i c;rw[m b,pI h.nd]at o;obtain⟨a,d,r⟩:=h.pred v k o;refine⟨(a.1,vP R a.2),?_,?_⟩
  .rw[Hk b];exact aF.mpr ⟨a,d,rfl⟩
  .rwa[J7 (l.cl v (aJ b) a d),pI h.nd]
 .obtain⟨v,b⟩:=g i c;rw[Hk b]at f;obtain⟨a,d,rfl⟩:=aF.mp f;rw[J7 (l.cl v (aJ b) a d),pI h.nd]at p;obtain⟨j,q⟩:=jI p;obtain⟨n,t,u⟩:=h.cl j _ (ax.mp q).1 q v (aJ b) ⟨a,d,rfl⟩;exact⟨n,by rwa[m b,pI h.nd],u⟩
 .obtain⟨v,b⟩:=g i c;rw[Hk b]at f;obtain⟨a,d,rfl⟩:=aF.mp f;rw[Q5];exact Hj (l.cl v (aJ b) a d)
def tj(s:ae)(v:VV):List Int:=
 let m:=ir s v
 if m.over=ZY then [-6] else
 let g:=Vberab.graph (a9 s) m
 let l:=jH g
 [DM (au l 0),match rn g l 0 with
  |none=>0
  |some e=>(e.1:Int)+1]
def Du{s}{R:List VV}{E:EE}(a:MN s R)(h:C3 s R E E.length){i:Nat}(b:i<R.length):au (jH (km s R)) i=Bq R E i:=by rw[Oo (Wy a h),zT (by rwa[Q5])]
def YO{s R}{E:EE}{v}(f:MN s R)(h:C3 s R E E.length)(c:R[0]?=Z_ v){k:Nat}(i:iD E v=Z_ (k+1)):
  rn (km s R) (jH (km s R)) 0=((qv s v).find? λa=>iD E a.2==Z_ k).map λa=>(a.1,vP R a.2):=by
 have j:0<R.length:=(ax.mp c).1;unfold rn;rw[Du f h j];have:Bq R E 0=Z_ (k+1):=by unfold Bq;rwa[c]
 simp only[this,Hk c];unfold EW;rw[List.find?_map]
 congr 1
 have:∀(l:List (Nat×VV)),(∀a∈l,a.2∈R)->l.find? ((λe:Nat×Nat=>au (jH (km s R)) e.2==Z_ k)∘λa=>(a.1,vP R a.2))=l.find? λa=>iD E a.2==Z_ k:=by
  intro l;induction l with
  |nil=>intro _;rfl
  |cons a l m=>
   intro g;have e:((λe:Nat×Nat=>au (jH (km s R)) e.2==Z_ k)∘λa=>(a.1,vP R a.2)) a=(iD E a.2==Z_ k):=by show (au _ (vP R a.2)==Z_ k)=_;have d:=g a (by simp);rw[Du f h (Hj d),J7 d]
   rw[eL,eL,e,m λb n=>g b (by simp[n])]
 exact this _ λa d=>f.cl v (aJ c) a d
def bZ(s:ae)(v:VV)(d:Vberab.Doing):VV:=(cj s.puzzle d v).getD v
def Lr{s:ae}{v:VV}{p:VV->Bool}(b:p v=ZX):∀(ds:List Vberab.Doing) (n:Nat),((ds.zipIdx n).filterMap λd=>(cj s.puzzle d.1 v).map λw=>(d.2,w)).find? (λa=>p a.2)=((ds.zipIdx n).find? λd=>p (bZ s v d.1)).map λd=>(d.2,bZ s v d.1)
 |[],n=>by simp
 |d::ds,n=>by
  have c:=Lr (s:=s) b ds (n+1);rw[g9,dD];cases f:cj s.puzzle d v with
  |none=>
   have e:bZ s v d=v:=by unfold bZ;rw[f];rfl
   rwa[d6 (by simp[e,b])]
  |some w=>
   have e:bZ s v d=w:=by unfold bZ;rw[f];rfl
   simp only[dZ];by_cases h:p w=ZY
   .rw[eI (by simpa using h),eI (by simpa[e] using h)];simp[e]
   .rwa[d6 (by simpa using h),d6 (by simpa[e] using h)]
def SC{s:ae}{v m}{E:EE}{i:Nat}(hm:ir s v=m)(h:J5 s m i)(n:i=(cn m).length)(f:(cn m)[0]?=Z_ v)(b:C3 s (cn m) E E.length):
  tj s v=match iD E v with
   |none=>[-1,0]
   |some 0=>[0,0]
   |some (k+1)=>[(k:Int)+1,match (s.puzzle.doings.zipIdx).find? λd=>iD E (bZ s v d.1)==Z_ k with
    |none=>0
    |some d=>(d.2:Int)+1]:=by
 have c:=SB h n;have g:0<(cn m).length:=(ax.mp f).1;unfold tj;simp only[hm,h.over,bR,if_false,V2 h n];rw[Du c b g];have j:Bq (cn m) E 0=iD E v:=by unfold Bq;rw[f];rfl
 rw[j];cases e:iD E v with
 |none=>
  have:rn (km s (cn m)) (jH (km s (cn m))) 0=ZZ:=by unfold rn;rw[Du c b g,j,e]
  rw[this];rfl
 |some k=>
  cases k with
  |zero=>
   have:rn (km s (cn m)) (jH (km s (cn m))) 0=ZZ:=by unfold rn;rw[Du c b g,j,e]
   rw[this];rfl
  |succ k=>
   rw[YO c b f e];have l:=Lr (s:=s) (v:=v) (p:=λw=>iD E w==Z_ k) (by rw[e];simp) s.puzzle.doings 0;have l:(qv s v).find? (λa=>iD E a.2==Z_ k)=_:=l;rw[l];simp only[DM];cases hz:(s.puzzle.doings.zipIdx).find? λd=>iD E (bZ s v d.1)==Z_ k with
   |none=>simp
   |some d=>simp
open PySem
def aV:iP->Nat×List D
 |.clear=>(0,[])
 |.var n b=>(1,[.int n,.int b])
 |.doing c e=>(2,[.lst (dI c),.lst (dI e)])
 |.goal c=>(3,[.lst (dI c)])
 |.see v c=>(4,[.int v,.lst (dI c)])
 |.maybe v a b=>(5,[.int v,.int a,.int b])
 |.fact n c=>(6,[.int n,.lst (dI c)])
 |.opened n=>(7,[.int n])
 |.play d=>(8,[.int d])
 |.view=>(9,[])
 |.belief=>(10,[])
 |.known=>(11,[])
 |.level n=>(12,[.int n])
 |.hint n=>(13,[.int n])
 |.sight=>(14,[])
 |.bar f=>(15,[.int f])
 |.tell f=>(16,[.int f])
 |.lead n=>(17,[.int n])
 |.map n=>(18,[.int n])
 |.strategy n=>(19,[.int n])
 |.actual=>(20,[])
 |.past=>(21,[])
 |.purse=>(22,[])
def MP(r:List Int)(c:Option iP)(p:Option (List D)):Prop:=match c with
 |none=>p=ZZ
 |some c=>p=Z_ (aV c).2/\∃l,r=((aV c).1:Int)::l
def xl{k l}(a:Jz k=ZY):gW [k] l=match ig l with
  |some (x,[])=>Z_ [.lst (dI x)]
  |_=>ZZ:=by
 cases l with
 |nil=>rfl
 |cons n t=>
  unfold gW ig;rw[i0p a];by_cases h:0<=n/\n<=(t.length:Int)
  .rw[i0p h];simp only[i0p h];cases hd:t.drop n.toNat with
   |nil=>simp[gW]
   |cons y u=>simp[gW]
  .rw[i0n h];simp only[i0n h]
def Q6{k a l}(b:Jz k=ZY):gW (k::a) l=(ig l).bind λx=>(gW a x.2).map (D.lst (dI x.1)::·):=by
 cases l with
 |nil=>rfl
 |cons n t=>
  unfold ig;rw[gW,i0p b];by_cases h:0<=n/\n<=(t.length:Int)
  .rw[i0p h];simp only[i0p h,jX]
  .rw[i0n h];simp only[i0n h,Hw]
def fB{k a}{x:Int}{l}(b:Jz k=ZX):gW (k::a) (x::l)=(gW a l).map (D.int x::·):=by rw[gW,i0n (by rw[b];exact aB)]
def nv:Jz "needs"=ZY:=rfl
def G1:Jz "effects"=ZY:=rfl
def Ls:Jz "size"=ZX/\Jz "begin"=ZX/\Jz "variable"=ZX/\Jz "least"=ZX/\Jz "greatest"=ZX/\Jz "price"=ZX/\Jz "purse"=ZX/\Jz "doing"=ZX/\Jz "most"=ZX/\Jz "fact"=ZX:=by refine⟨?_,?_,?_,?_,?_,?_,?_,?_,?_,?_⟩<;>decide +kernel
def zU(l:List Int):gW [] l=if l=[] then Z_ [] else ZZ:=by rw[gW];cases l<;>simp
def SD(r:List Int):MP r (gq r) (oq r):=by
 cases r with
 |nil=>rfl
 |cons x l=>
  by_cases u:0<=x/\x<=22
  .have e:oq (x::l)=gW (u9.getD x.toNat []) l:=i0p u;rw[e];obtain⟨w,C,j,A,D,F,G,H,o,p⟩:=Ls;have q:x=0\/x=1\/x=2\/x=3\/x=4\/x=5\/x=6\/x=7\/x=8\/x=9\/x=10\/x=11\/x=12\/x=13\/x=14\/x=15\/x=16\/x=17\/x=18\/x=19\/x=20\/x=21\/x=22:=by lia
   have g:∀(n:Nat) (c:iP),aV c=(n,[])->(∀l:List Int,gq ((n:Int)::l)=if l=[] then Z_ c else ZZ)->MP ((n:Int)::l) (gq ((n:Int)::l)) (gW [] l):=by
    intro n c h1 B;rw[B,zU];by_cases s:l=[]
    .rw[i0p s,i0p s];exact⟨by rw[h1],l,by rw[h1]⟩
    .rw[i0n s,i0n s];rfl
   have f:∀(n:Nat) (k:Str) (c:Int->iP),Jz k=ZX->(∀a,aV (c a)=(n,[.int a]))->(∀l:List Int,gq ((n:Int)::l)=match l with|[a]=>Z_ (c a)|_=>ZZ)->MP ((n:Int)::l) (gq ((n:Int)::l)) (gW [k] l):=by
    intro n k c E h1 B;rw[B]
    match l with
    |[]=>rfl
    |[a]=>rw[fB E,zU];exact⟨by rw[h1];rfl,[a],by rw[h1]⟩
    |a::b::t=>rw[fB E,zU];rfl
   rcases q with rfl|rfl|rfl|rfl|rfl|rfl|rfl|rfl|rfl|rfl|rfl|rfl|rfl|rfl|rfl|rfl|rfl|rfl|rfl|rfl|rfl|rfl|rfl
   .exact g 0 .clear rfl λl=>by cases l<;>rfl
   .show MP (1::l) _ (gW ["size", "begin"] l)
    match l with
    |[]=>rfl
    |[a]=>rw[fB w];rfl
    |[a,b]=>rw[fB w,fB C,zU];exact⟨rfl,_,rfl⟩
    |a::b::c::t=>rw[fB w,fB C,zU];rfl
   .show MP (2::l) _ (gW ["needs", "effects"] l);rw[Q6 nv];have h:gq (2::l)=(ig l).bind λx=>match ig x.2 with
     |some (e,[])=>Z_ (.doing x.1 e)
     |_=>ZZ:=rfl
    rw[h];cases q:ig l with
    |none=>rfl
    |some y=>
     simp only[jX];rw[xl G1];cases hc2:ig y.2 with
     |none=>rfl
     |some z=>
      obtain⟨f,i⟩:=z;cases i with
      |nil=>exact⟨rfl,_,rfl⟩
      |cons _ _=>rfl
   .show MP (3::l) _ (gW ["needs"] l);rw[xl nv];have h:gq (3::l)=match ig l with
     |some (x,[])=>Z_ (.goal x)
     |_=>ZZ:=rfl
    rw[h];cases q:ig l with
    |none=>rfl
    |some z=>
     obtain⟨f,i⟩:=z;cases i with
     |nil=>exact⟨rfl,_,rfl⟩
     |cons _ _=>rfl
   .show MP (4::l) _ (gW ["variable", "needs"] l);cases l with
    |nil=>rfl
    |cons v l=>
     rw[fB j,xl nv];have h:gq (4::v::l)=match ig l with
      |some (x,[])=>Z_ (.see v x)
      |_=>ZZ:=rfl
     rw[h];cases q:ig l with
     |none=>rfl
     |some z=>
      obtain⟨f,i⟩:=z;cases i with
      |nil=>exact⟨rfl,_,rfl⟩
      |cons _ _=>rfl
   .show MP (5::l) _ (gW ["variable", "least", "greatest"] l)
    match l with
    |[]=>rfl
    |[a]=>rw[fB j];rfl
    |[a,b]=>rw[fB j,fB A];rfl
    |[a,b,c]=>rw[fB j,fB A,fB D,zU];exact⟨rfl,_,rfl⟩
    |a::b::c::d::t=>rw[fB j,fB A,fB D,zU];rfl
   .show MP (6::l) _ (gW ["price", "needs"] l);cases l with
    |nil=>rfl
    |cons v l=>
     rw[fB F,xl nv];have h:gq (6::v::l)=match ig l with
      |some (x,[])=>Z_ (.fact v x)
      |_=>ZZ:=rfl
     rw[h];cases q:ig l with
     |none=>rfl
     |some z=>
      obtain⟨f,i⟩:=z;cases i with
      |nil=>exact⟨rfl,_,rfl⟩
      |cons _ _=>rfl
   .exact f 7 "purse" .opened G (λ_=>rfl) λl=>by rcases l with _|⟨a,_|⟨b,t⟩⟩<;>rfl
   .exact f 8 "doing" .play H (λ_=>rfl) λl=>by rcases l with _|⟨a,_|⟨b,t⟩⟩<;>rfl
   .exact g 9 .view rfl λl=>by cases l<;>rfl
   .exact g 10 .belief rfl λl=>by cases l<;>rfl
   .exact g 11 .known rfl λl=>by cases l<;>rfl
   .exact f 12 "most" .level o (λ_=>rfl) λl=>by rcases l with _|⟨a,_|⟨b,t⟩⟩<;>rfl
   .exact f 13 "most" .hint o (λ_=>rfl) λl=>by rcases l with _|⟨a,_|⟨b,t⟩⟩<;>rfl
   .exact g 14 .sight rfl λl=>by cases l<;>rfl
   .exact f 15 "fact" .bar p (λ_=>rfl) λl=>by rcases l with _|⟨a,_|⟨b,t⟩⟩<;>rfl
   .exact f 16 "fact" .tell p (λ_=>rfl) λl=>by rcases l with _|⟨a,_|⟨b,t⟩⟩<;>rfl
   .exact f 17 "most" .lead o (λ_=>rfl) λl=>by rcases l with _|⟨a,_|⟨b,t⟩⟩<;>rfl
   .exact f 18 "most" .map o (λ_=>rfl) λl=>by rcases l with _|⟨a,_|⟨b,t⟩⟩<;>rfl
   .exact f 19 "most" .strategy o (λ_=>rfl) λl=>by rcases l with _|⟨a,_|⟨b,t⟩⟩<;>rfl
   .exact g 20 .actual rfl λl=>by cases l<;>rfl
   .exact g 21 .past rfl λl=>by cases l<;>rfl
   .exact g 22 .purse rfl λl=>by cases l<;>rfl
  .have e:oq (x::l)=ZZ:=i0n u;rw[e];have:gq (x::l)=ZZ:=by
    cases x with
    |negSucc n=>kernel_rfl!
    |ofNat n=>
     obtain⟨m,rfl⟩:∃m,n=m+23:=⟨n-23,by simp only[Int.ofNat_eq_natCast]at u;lia⟩
     kernel_rfl!
   rw[this];rfl
def G2(k:Str):List Int->Bool
 |[]=>ZY
 |a::b::c::r=>kf k a b c&&G2 k r
 |_=>ZX
def Ot(k:Str):∀l:List Int,(decide (l.length%3=0)&&(bL (l.length / 3)).all (UA k l))=G2 k l
 |[]=>rfl
 |[_]=>rfl
 |[_,_]=>rfl
 |a::b::c::r=>by
  have d:=Ot k r;have e:(a::b::c::r).length%3=r.length%3:=by simp only[aZ];lia
  have f:(a::b::c::r).length / 3=r.length / 3+1:=by simp only[aZ];lia
  have g:(bL (r.length / 3+1)).all (UA k (a::b::c::r))=(kf k a b c&&(bL (r.length / 3)).all (UA k r)):=by rw[qe,eO,kY];rfl
  rw[e,f,g,G2,<-d];cases kf k a b c<;>simp
def Lu(k:Str)(l:List Int):mY k l=(decide (l.length<=30)&&G2 k l):=by unfold mY;rw[Bool.and_assoc,Ot]
def V3:("needs":Str)≠"effects":=by decide +kernel
def JY(a b c:Int):kf "needs" a b c=(kN a 0 7&&kN b 0 3&&kN c (-1000) 1000):=by unfold kf;rw[i0n λh=>V3 h.1]
def Ou:∀l:List Int,(fN l).isSome=G2 "needs" l
 |[]=>rfl
 |[_]=>rfl
 |[_,_]=>rfl
 |a::b::c::r=>by
  have e:=Ou r;rw[fN,G2,JY];by_cases h:iV a 0 7=ZY/\iV b 0 3=ZY/\iV c (-1000) 1000=ZY
  .rw[i0p h,jv,e];have h1:kN a 0 7=ZY:=h.1;have f:kN b 0 3=ZY:=h.2.1;have g:kN c (-1000) 1000=ZY:=h.2.2;rw[h1,f,g];simp
  .rw[i0n h];have:(kN a 0 7&&kN b 0 3&&kN c (-1000) 1000)=ZX:=by
    rw[xw];intro d;rw[a_,a_]at d;exact h ⟨d.1.1,d.1.2,d.2⟩
   rw[this];rfl
def tm(l:List Int):fO l=mY "needs" l:=by unfold fO Bu;rw[jv,Ou,Lu]
def Rf:∀l:List Int,(e8 l).isSome=G2 "effects" l
 |[]=>rfl
 |[_]=>rfl
 |[_,_]=>rfl
 |a::b::c::r=>by
  have j:=Rf r;unfold e8 at j ⊢;rw[fN,G2,<-j];by_cases h:iV a 0 7=ZY/\iV b 0 3=ZY/\iV c (-1000) 1000=ZY
  .rw[i0p h];have hb:0<=b/\b<=3:=by have:=h.2.1;unfold iV at this;simpa using this
   cases ht:fN r with
   |none=>simp
   |some t=>
    have f:∀{α:Type} (b:Bool) (x:α),(if b=ZY then Z_ x else ZZ).isSome=b:=by intro α b x;cases b<;>rfl
    simp only[dZ,jX];rw[f,f,eO];have h1:kN a 0 7=ZY:=h.1;have k:kN b 0 3=ZY:=h.2.1;have d:kN c (-1000) 1000=ZY:=h.2.2;have e:kf "effects" a b c=(decide (b.toNat<2)||iV c 0 7):=by
     unfold kf;rw[h1,k,y9,y9];by_cases g:2<=b
     .rw[i0p ⟨rfl,g⟩,decide_eq_false (by lia),Fg];rfl
     .rw[i0n λx=>g x.2,d,decide_eq_true (by lia),Bool.true_or]
    rw[e]
  .rw[i0n h];have:kf "effects" a b c=ZX:=by
    rw[xw];intro i;unfold kf at i;rw[a_,a_]at i;refine h ⟨i.1.1,i.1.2,?_⟩;have d:=i.2;split at d
    .unfold kN at d;unfold iV;simp only[a_,decide_eq_true_eq]at d ⊢;lia
    .exact d
   rw[this];rfl
def Lw(l:List Int):(decide (l.length<=30)&&(e8 l).isSome)=mY "effects" l:=by rw[Rf,Lu]
def Q7:iP->Prop
 |.doing c e=>c.length<=1000/\e.length<=1000
 |.goal c=>c.length<=1000
 |.see _ c=>c.length<=1000
 |.fact _ c=>c.length<=1000
 |_=>True
def V4:Eu "size"=Z_ (1,50)/\Eu "begin"=Z_ (0,49)/\Eu "variable"=Z_ (0,7)/\Eu "least"=Z_ (0,49)/\Eu "greatest"=Z_ (0,49)/\Eu "price"=Z_ (0,1000)/\Eu "purse"=Z_ (0,10000)/\Eu "doing"=Z_ (0,19)/\Eu "fact"=Z_ (0,11)/\Eu "most"=Z_ (1,60):=by refine⟨?_,?_,?_,?_,?_,?_,?_,?_,?_,?_⟩<;>decide +kernel
def Ov(c:iP)(hs:Q7 c):(aV c).1<23/\Mi (aV c).1 (aV c).2/\∃b,zF (u9.getD (aV c).1 []) (aV c).2 b/\(b&&L5 (aV c).1 (aV c).2)=jJ c:=by
 obtain⟨m,o,j,p,q,r,s,u,g,i⟩:=Ls;obtain⟨w,x,k,y,z,A,B,C,l,f⟩:=V4;have lt:∀{n:Nat},Nat.ble (n+1) 23=ZY->n<23:=λh=>Nat.le_of_ble_eq_true h;have d:∀n args,Nat.beq n 1=ZX->Nat.beq n 5=ZX->Mi n args:=λn args h1 D=>⟨λe=>absurd e (Nat.ne_of_beq_eq_false h1),λe=>absurd e (Nat.ne_of_beq_eq_false D)⟩
 have t:∀b:Bool,(b&&ZY)=b:=λb=>by cases b<;>rfl
 cases c with
 |clear=>exact⟨lt rfl,d _ _ rfl rfl,_,.nil,rfl⟩
 |var n b=>
  refine⟨lt rfl,⟨λ_=>⟨_,_,rfl⟩,λe=>absurd e (Nat.ne_of_beq_eq_false rfl)⟩,_,.cons (.int m w) (.cons (.int o x) .nil),?_⟩;show (kN n 1 50&&(kN b 0 49&&ZY)&&decide (b<n))=(cJ n 1 50&&cJ b 0 (n-1))
  unfold kN cJ;rw[bW];simp only[a_,decide_eq_true_eq,and_true];lia
 |doing c e=>
  refine⟨lt rfl,d _ _ rfl rfl,_,.cons (.lst nv hs.1) (.cons (.lst G1 hs.2) .nil),?_⟩;show (mY "needs" c&&(mY "effects" e&&ZY)&&ZY)=(fO c&&(decide (e.length<=30)&&(e8 e).isSome))
  rw[tm,Lw,t,t]
 |goal c=>refine⟨lt rfl,d _ _ rfl rfl,_,.cons (.lst nv hs) .nil,?_⟩;show (mY "needs" c&&ZY&&ZY)=fO c;rw[tm,t,t]
 |see v c=>
  refine⟨lt rfl,d _ _ rfl rfl,_,.cons (.int j k) (.cons (.lst nv hs) .nil),?_⟩;show (kN v 0 7&&(mY "needs" c&&ZY)&&ZY)=(cJ v 0 7&&fO c)
  rw[tm,t,t];rfl
 |maybe v a b=>
  refine⟨lt rfl,⟨λe=>absurd e (Nat.ne_of_beq_eq_false rfl),λ_=>⟨_,_,_,rfl⟩⟩,_,.cons (.int j k) (.cons (.int p y) (.cons (.int q z) .nil)),?_⟩;show (kN v 0 7&&(kN a 0 49&&(kN b 0 49&&ZY))&&decide (a<=b))=(cJ v 0 7&&(cJ a 0 49&&cJ b a 49))
  unfold kN cJ;rw[bW];simp only[a_,decide_eq_true_eq,and_true];lia
 |fact n c=>
  refine⟨lt rfl,d _ _ rfl rfl,_,.cons (.int r A) (.cons (.lst nv hs) .nil),?_⟩;show (kN n 0 1000&&(mY "needs" c&&ZY)&&ZY)=(cJ n 0 1000&&fO c)
  rw[tm,t,t];rfl
 |opened n=>exact⟨lt rfl,d _ _ rfl rfl,_,.cons (.int s B) .nil,by show (kN n 0 10000&&ZY&&ZY)=_;rw[t,t];rfl⟩
 |play n=>exact⟨lt rfl,d _ _ rfl rfl,_,.cons (.int u C) .nil,by show (kN n 0 19&&ZY&&ZY)=_;rw[t,t];rfl⟩
 |view=>exact⟨lt rfl,d _ _ rfl rfl,_,.nil,rfl⟩
 |belief=>exact⟨lt rfl,d _ _ rfl rfl,_,.nil,rfl⟩
 |known=>exact⟨lt rfl,d _ _ rfl rfl,_,.nil,rfl⟩
 |level n=>exact⟨lt rfl,d _ _ rfl rfl,_,.cons (.int g f) .nil,by show (kN n 1 60&&ZY&&ZY)=_;rw[t,t];rfl⟩
 |hint n=>exact⟨lt rfl,d _ _ rfl rfl,_,.cons (.int g f) .nil,by show (kN n 1 60&&ZY&&ZY)=_;rw[t,t];rfl⟩
 |sight=>exact⟨lt rfl,d _ _ rfl rfl,_,.nil,rfl⟩
 |bar n=>exact⟨lt rfl,d _ _ rfl rfl,_,.cons (.int i l) .nil,by show (kN n 0 11&&ZY&&ZY)=_;rw[t,t];rfl⟩
 |tell n=>exact⟨lt rfl,d _ _ rfl rfl,_,.cons (.int i l) .nil,by show (kN n 0 11&&ZY&&ZY)=_;rw[t,t];rfl⟩
 |lead n=>exact⟨lt rfl,d _ _ rfl rfl,_,.cons (.int g f) .nil,by show (kN n 1 60&&ZY&&ZY)=_;rw[t,t];rfl⟩
 |map n=>exact⟨lt rfl,d _ _ rfl rfl,_,.cons (.int g f) .nil,by show (kN n 1 60&&ZY&&ZY)=_;rw[t,t];rfl⟩
 |strategy n=>exact⟨lt rfl,d _ _ rfl rfl,_,.cons (.int g f) .nil,by show (kN n 1 60&&ZY&&ZY)=_;rw[t,t];rfl⟩
 |actual=>exact⟨lt rfl,d _ _ rfl rfl,_,.nil,rfl⟩
 |past=>exact⟨lt rfl,d _ _ rfl rfl,_,.nil,rfl⟩
 |purse=>exact⟨lt rfl,d _ _ rfl rfl,_,.nil,rfl⟩
structure uU(s:ae)(p:bM):Prop where
 now:p.now∈p.belief
 nd:p.belief.Nodup
 vok:∀v∈p.belief,nB s v
 len:p.belief.length<=40
 past:p.past.length<=200
 ents:∀e∈p.past,e.length<=19
structure qw(s:ae):Prop where
 good:mq s
 spans:∀(i:Nat) (x:Nat×Nat),s.maybes[i]?=Z_ x->∃n b:Nat,s.puzzle.sizes[i]?=Z_ n/\s.puzzle.begins[i]?=Z_ b/\x.1<=b/\b<=x.2/\x.2<n/\n<=50
 play:∀p,s.play=Z_ p->uU s p
def qw.start:qw dc:=by
 refine⟨⟨?_,?_,?_,?_,?_,?_,?_,?_,?_⟩,?_,?_⟩
 .decide
 .rfl
 .rfl
 .decide
 .decide
 .intro w hw;cases hw
 .intro w hw;cases hw
 .intro w hw;cases hw
 .intro w hw;cases hw
 .intro i x a;cases a
 .intro p b;cases b
def kU.mono{n m:Nat}{l}(h:kU n l)(e:n<=m):kU m l:=λc a=>bV (h c a) e
def MQ{s:ae}{l}(h:¬DR s l=ZY):kU s.puzzle.sizes.length l:=λc a=>by
 have h:¬(l.any λx=>decide (s.puzzle.sizes.length<=x.var))=ZY:=h;rw[cx]at h;rcases AY c.var s.puzzle.sizes.length with h1|h1
 .exact h1
 .exact absurd ⟨c,a,by simpa using h1⟩ h
def EZ:List (Nat×Nat)->List Nat->Prop
 |[],[]=>True
 |x::r,n::v=>x.1<=n/\n<=x.2/\EZ r v
 |_,_=>False
def Dv:∀(l:List (Nat×Nat)) (v:List Nat),v∈cY l↔EZ l v
 |[],v=>by cases v<;>simp[cY,EZ]
 |x::r,v=>by
  unfold cY;rw[gS];constructor
  .rintro⟨k,a,hm⟩;obtain⟨w,hw,rfl⟩:=aF.mp hm;have:=cT.mp a;exact⟨by lia,by lia,(Dv r w).mp hw⟩
  .intro h;cases v with
   |nil=>exact h.elim
   |cons n v=>obtain⟨h1,h2,b⟩:=h;exact⟨n-x.1,cT.mpr (by lia),aF.mpr ⟨v,(Dv r v).mpr b,by rw[show x.1+(n-x.1)=n by lia]⟩⟩
def G3:∀l:List (Nat×Nat),(cY l).Nodup
 |[]=>by simp[cY]
 |x::r=>by
  unfold cY;show List.Pairwise _ _;rw[List.pairwise_flatMap];refine⟨λk _=>?_,?_⟩
  .rw[List.pairwise_map];exact (G3 r).imp λh e=>h (by injection e)
  .refine AZ (R:=λa b=>a<b) (λ{a b} h u c w hw e=>?_) AD;obtain⟨u',_,rfl⟩:=aF.mp c;obtain⟨w',_,rfl⟩:=aF.mp hw;injection e with e1 _
   lia
def J8:∀{l:List (Nat×Nat)} {v:List Nat},EZ l v->v.length=l.length
 |[],[],_=>rfl
 |x::r,n::v,h=>by simp[J8 h.2.2]
 |[],_::_,h=>h.elim
 |_::_,[],h=>h.elim
def J9:∀{l:List (Nat×Nat)} {v:List Nat} {i n:Nat},EZ l v->v[i]?=Z_ n->∃x,l[i]?=Z_ x/\x.1<=n/\n<=x.2
 |[],[],i,n,_,h=>by simp at h
 |x::r,m::v,0,n,h,e=>by
  have e:m=n:=by simpa using e
  subst e;exact⟨x,rfl,h.1,h.2.1⟩
 |x::r,m::v,i+1,n,h,e=>by obtain⟨y,h1,a⟩:=J9 h.2.2 (by simpa using e:v[i]?=Z_ n);exact⟨y,by simpa using h1,a⟩
 |[],_::_,_,_,h,_=>h.elim
 |_::_,[],_,_,h,_=>h.elim
def Lx:∀{l:List (Nat×Nat)} {v:List Nat},v.length=l.length->(∀(i:Nat) (x:Nat×Nat),l[i]?=Z_ x->∃n,v[i]?=Z_ n/\x.1<=n/\n<=x.2)->EZ l v
 |[],[],_,_=>trivial
 |x::r,n::v,a,h=>by
  obtain⟨m,e,h1⟩:=h 0 x rfl;have e:n=m:=by simpa using e
  subst e;refine⟨h1.1,h1.2,Lx (by simpa using a) λi y b=>?_⟩;obtain⟨m,e,c⟩:=h (i+1) y (by simpa using b);exact⟨m,by simpa using e,c⟩
 |[],_::_,a,_=>by simp at a
 |_::_,[],a,_=>by simp at a
def qw.begins{s:ae}(h:qw s):s.puzzle.begins∈cI s:=by unfold cI;refine du.mpr ⟨(Dv _ _).mpr (Lx (by rw[h.good.begins,h.good.maybes]) λi x a=>?_),by simp⟩;obtain⟨n,b,_,c,d,e,_⟩:=h.spans i x a;exact⟨b,c,d,e⟩
def qw.a5z{s}(h:qw s):∀v∈cI s,nB s v:=λv a=>by unfold cI at a;have hw:=(Dv _ _).mp (du.mp a).1;refine⟨by rw[J8 hw,h.good.maybes],λi n c=>?_⟩;obtain⟨x,h1,h2,h3⟩:=J9 hw c;obtain⟨k,b,d,_,_,_,k5,_⟩:=h.spans i x h1;rw[aI,d];show n<k;lia
def uU.first{s}(h:qw s)(n:Nat)(a:(cI s).length<=40):uU s {now:=s.puzzle.begins,belief:=cI s,purse:=n}:=⟨h.begins,(G3 _).filter _,h.a5z,a,by simp,by simp⟩
def Ow{s a}{i:Nat}{v}(g:v∈a):∃o∈bE (a9 s) (ay s) a i,o.1=bH (a9 s) (ay s) i v/\(bN (a9 s) i v).2∈o.2/\gZ (a9 s) (ay s) a i (bH (a9 s) (ay s) i v)=o.2:=by
 have ok:=oz s i a;unfold gZ;generalize bE (a9 s) (ay s) a i=outs at ok;obtain⟨o,f,b,j⟩:=ok.all v g;refine⟨o,f,b,j,?_⟩;have k:=ok.keys;have:∀l:Mr,(l.map λo=>o.1).Nodup->o∈l->(l.find? λx=>x.1==bH (a9 s) (ay s) i v)=Z_ o:=by
  intro l;induction l with
  |nil=>intro _ h;cases h
  |cons y l m=>
   intro d hm;rw[aQ,bX]at d;by_cases c:y.1=bH (a9 s) (ay s) i v
   .rw[eI (by simpa using c)];rcases aL.mp hm with e|e
    .rw[e]
    .exact absurd (aF.mpr ⟨o,e,by rw[b,c]⟩) d.1
   .rw[d6 (by simpa using c)];rcases aL.mp hm with e|e
    .rw[e]at b;exact absurd b c
    .exact m d.2 e
 rw[this outs k f];rfl
def Ox{s}(g:mq s)(i:Nat)(v:List Nat):(bH (a9 s) (ay s) i v).length<=17:=by unfold bH;simp only[aZ];have:=Dg s (bN (a9 s) i v).2;have:=g.vars;lia
def uU.played{s:ae}{p:bM}{i:Nat}(g:mq s)(h:uU s p)(f:i<s.puzzle.doings.length)(hp:p.past.length<200):
  uU s {p with now:=(bN (a9 s) i p.now).2,belief:=gZ (a9 s) (ay s) p.belief i (bH (a9 s) (ay s) i p.now),past:=p.past++[0::i::bH (a9 s) (ay s) i p.now]}:=by
 obtain⟨o,c,e1,j,a⟩:=Ow (s:=s) (i:=i) h.now;have ok:=oz s i p.belief;refine⟨by show _∈gZ _ _ _ _ _;rwa[a],by show (gZ _ _ _ _ _).Nodup;rw[a];exact ok.nd o c,λv b=>?_,?_,?_,λe d=>?_⟩
 .have b:v∈gZ (a9 s) (ay s) p.belief i (bH (a9 s) (ay s) i p.now):=b;rw[a]at b;obtain⟨w,hw,rfl⟩:=ok.from_ o c v b;exact Lc g (h.vok w hw) f
 .show (gZ _ _ _ _ _).length<=40;rw[a];have:=ok.len o c;have:=h.len;lia
 .show (p.past++[_]).length<=200;rw[aK];simp;lia
 .have d:e∈p.past++[0::i::bH (a9 s) (ay s) i p.now]:=d;rcases aX.mp d with h1|h1
  .exact h.ents e h1
  .rw[bb]at h1;subst h1;have:=Ox g i p.now;simp only[aZ];lia
def uU.told{s}{p:bM}{x}{i:Nat}(h:uU s p)(a:(bB x).holds p.now=ZY)(hp:p.past.length<200):
  uU s {p with belief:=d7 (bB x) p.belief,purse:=p.purse-x.price,past:=p.past++[[1,i]]}:=by
 refine⟨du.mpr ⟨h.now,a⟩,h.nd.filter _,λv b=>h.vok v (du.mp b).1,?_,?_,λe c=>?_⟩
 .exact c6 (fS _ _) h.len
 .show (p.past++[_]).length<=200;rw[aK];simp;lia
 .rcases aX.mp c with h1|h1
  .exact h.ents e h1
  .rw[bb]at h1;subst h1;simp
def uU.of{s a:ae}{p}(h:uU s p)(e:a.puzzle.sizes=s.puzzle.sizes):uU a p:=⟨h.now,h.nd,λv b=>⟨by rw[e];exact (h.vok v b).len,by rw[e];exact (h.vok v b).lt⟩,h.len,h.past,h.ents⟩
def mq.a1X{s}(g:mq s)(x:Option bM):mq {s with play:=x}:=⟨g.vars,g.begins,g.maybes,g.a1T,g.a2i,g.views,g.doings,g.goal,g.facts⟩
def qw.a1X{s}(h:qw s){p}(a:uU s p):qw {s with play:=Z_ p}:=⟨h.good.a1X _,h.spans,λq b=>by cases b;exact a.of rfl⟩
def SE{α:Type}{o:Option α}{x}(h:o=Z_ x):∀y,o.getD y=x:=λ_=>by rw[h];rfl
nonrec def Ja:∀{l:List Int} {t:List (Nat×Nat×Int)},fN l=Z_ t->∀x∈t,x.2.1<=3
 |[],t,h,x,d=>by cases h;cases d
 |[_],t,h,x,d=>by cases h
 |[_,_],t,h,x,d=>by cases h
 |a::b::c::r,t,h,x,d=>by
  rw[fN]at h;split at h
  .rename_i g;cases f:fN r with
   |none=>rw[f]at h;cases h
   |some u=>
    rw[f]at h;cases az h;rcases aL.mp d with e|e
    .subst e;have:=g.2.1;unfold iV at this;simp only[a_,decide_eq_true_eq]at this;show b.toNat<=3;lia
    .exact Ja f x e
  .cases h
nonrec def Wz{s:ae}{e}{c:List cp}(he:e8 e=Z_ c)(h:¬(c.any λx=>decide (s.puzzle.sizes.length<=x.var)||(decide (2<=x.how)&&decide ((s.puzzle.sizes.length:Int)<=x.n)))=ZY):∀x∈c,Ir s.puzzle.sizes.length x:=by
 intro x f;have b:¬(decide (s.puzzle.sizes.length<=x.var)||(decide (2<=x.how)&&decide ((s.puzzle.sizes.length:Int)<=x.n)))=ZY:=λj=>h (cx.mpr ⟨x,f,j⟩);simp only[l6,a_,decide_eq_true_eq,not_or,not_and]at b;unfold e8 at he;cases d:fN e with
 |none=>rw[d]at he;cases he
 |some t=>
  rw[d]at he;simp only[jX]at he;split at he
  .rename_i a;cases az he;obtain⟨u,g,rfl⟩:=aF.mp f;have k:=Ja d u g;have h4:=cb.mp a u g;refine⟨by simp only at b ⊢;lia,k,λi=>?_⟩;simp only at i b ⊢;have h5:=b.2 i;simp only[l6,decide_eq_true_eq]at h4;rcases h4 with h4|h4
   .lia
   .unfold iV at h4;simp only[a_,decide_eq_true_eq]at h4;lia
  .cases he
nonrec def WA{s c}(h:qw s)(A:jJ c=ZY):qw (bu s c).1:=by
 have g:=h.good;have q:∀{E:ae},(∀p,(jF E).play=Z_ p->uU (jF E) p):=λ{E} p o=>by cases o
 have j:∀(k:bM->ae×List Int),(∀p,s.play=Z_ p->qw (k p).1)->qw (jK s k).1:=λk F=>by
  unfold jK;cases o:s.play with
  |none=>exact h
  |some p=>exact F p o
 have u:∀(n:Int) (k:bM->G7 rl->qZ->ae×List Int),(∀p m l,(k p m l).1=s)->qw (tE s n k).1:=λn k F=>by
  refine j _ λp o=>?_;simp only;split
  .exact h
  .rwa[F]
 cases c with
 |clear=>exact qw.start
 |var n b=>
  unfold bu;simp only;split
  .exact h
  .rename_i L;have L:s.puzzle.sizes.length<8:=by unfold Vberab.VARS at L;lia
   have G:(1<=n/\n<=50)/\0<=b/\b<=n-1:=by have:(cJ n 1 50&&cJ b 0 (n-1))=ZY:=A;unfold cJ at this;simpa only[a_,decide_eq_true_eq] using this
   have el:(s.puzzle.sizes++[n.toNat]).length=s.puzzle.sizes.length+1:=by simp
   refine⟨⟨?_,?_,?_,g.a1T,g.a2i,λw hw=>?_,λd H=>?_,?_,λf I=>?_⟩,λi x t=>?_,q⟩
   .show (s.puzzle.sizes++[n.toNat]).length<=8;lia
   .show (s.puzzle.begins++[b.toNat]).length=(s.puzzle.sizes++[n.toNat]).length;simp[g.begins]
   .show (s.maybes++[(b.toNat,b.toNat)]).length=(s.puzzle.sizes++[n.toNat]).length;simp[g.maybes]
   .show kU (s.puzzle.sizes++[n.toNat]).length w.needs;exact (g.views w hw).mono (by lia)
   .show Hg (s.puzzle.sizes++[n.toNat]).length d;have:=g.doings d H;refine⟨this.needs.mono (by lia),λe Q=>?_⟩;have:=this.effects e Q;exact⟨by have:=this.var;lia,this.how,λx=>⟨(this.num x).1,by have:=(this.num x).2;lia⟩⟩
   .show kU (s.puzzle.sizes++[n.toNat]).length s.puzzle.goal;exact g.goal.mono (by lia)
   .show kU (s.puzzle.sizes++[n.toNat]).length f.needs;exact (g.facts f I).mono (by lia)
   .have t:(s.maybes++[(b.toNat,b.toNat)])[i]?=Z_ x:=t;show ∃M N:Nat,(s.puzzle.sizes++[n.toNat])[i]?=Z_ M/\(s.puzzle.begins++[b.toNat])[i]?=Z_ N/\_;by_cases R:i<s.maybes.length
    .rw[gL R]at t;have m1:=g.maybes;have m2:=g.begins;rw[gL (by lia),gL (by lia)];exact h.spans i x t
    .have hi2:i<s.maybes.length+1:=by have:=(ax.mp t).1;simpa using this
     have e:i=s.maybes.length:=by lia
     subst e;rw[ui]at t;cases az t;have S:s.maybes.length=s.puzzle.sizes.length:=g.maybes;have T:s.maybes.length=s.puzzle.begins.length:=by rw[g.maybes,g.begins]
     refine⟨n.toNat,b.toNat,by rw[S];exact ui,by rw[T];exact ui,aN _,aN _,?_,?_⟩
     .show b.toNat<n.toNat;lia
     .lia
 |doing c e=>
  unfold bu;simp only;split
  .exact h
  .rename_i h1;split
   .exact h
   .rename_i r;rw[l6,not_or]at h1;have r:s.puzzle.doings.length<20:=by unfold Vberab.DOINGS at r;lia
    have J:(e8 e).isSome=ZY:=by have A:(fO c&&(decide (e.length<=30)&&(e8 e).isSome))=ZY:=A;rw[a_,a_]at A;exact A.2.2
    obtain⟨es,C⟩:=fM.mp J;rw[SE C]at h1 ⊢;refine⟨⟨g.vars,g.begins,g.maybes,?_,g.a2i,g.views,λd H=>?_,g.goal,g.facts⟩,h.spans,q⟩
    .show (s.puzzle.doings++[_]).length<=20;rw[aK];simp;lia
    .rcases aX.mp H with h3|h3
     .exact g.doings d h3
     .rw[bb]at h3;subst h3;exact⟨MQ h1.1,Wz C h1.2⟩
 |goal c=>
  unfold bu;simp only;split
  .exact h
  .rename_i h1;exact⟨⟨g.vars,g.begins,g.maybes,g.a1T,g.a2i,g.views,g.doings,MQ h1,g.facts⟩,h.spans,q⟩
 |see v c=>
  unfold bu;simp only;split
  .exact h
  .rename_i h1;split
   .exact h
   .rename_i r;rw[not_or]at h1;refine⟨⟨g.vars,g.begins,g.maybes,g.a1T,g.a2i,λw hw=>?_,g.doings,g.goal,g.facts⟩,h.spans,q⟩;rcases aX.mp hw with h3|h3
    .exact g.views w h3
    .rw[bb]at h3;subst h3;exact MQ h1.2
 |maybe v a b=>
  unfold bu;simp only;split
  .rename_i n x O t;split
   .exact h
   .rename_i h1;split
    .exact h
    .rename_i r;have G:(0<=a/\a<=49)/\a<=b/\b<=49:=by
      have:(cJ v 0 7&&(cJ a 0 49&&cJ b a 49))=ZY:=A;unfold cJ at this;simp only[a_,decide_eq_true_eq]at this;lia
     refine⟨⟨g.vars,g.begins,?_,g.a1T,g.a2i,g.views,g.doings,g.goal,g.facts⟩,λi y D=>?_,q⟩
     .show (s.maybes.set v.toNat (a.toNat,b.toNat)).length=_;rw[d4];exact g.maybes
     .have B:(s.maybes.set v.toNat (a.toNat,b.toNat))[i]?=Z_ y:=D;clear D;rw[List.getElem?_set]at B;split at B
      .rename_i e;subst e;split at B
       .rename_i U;cases az B;obtain⟨z,V⟩:∃z,s.maybes[v.toNat]?=Z_ z:=⟨_,aj U⟩
        obtain⟨M,N,P,k2,k3,k4,k5,W⟩:=h.spans _ z V;rw[O]at P;cases P;refine⟨n,x,O,t,?_,?_,?_,W⟩
        .show a.toNat<=x;lia
        .show x<=b.toNat;lia
        .show b.toNat<n;lia
       .cases B
      .exact h.spans i y B
  .exact h
 |fact n c=>
  unfold bu;simp only;split
  .exact h
  .rename_i h1;split
   .exact h
   .rename_i r;have r:s.facts.length<12:=by unfold Vberaf.FACTS at r;lia
    refine⟨⟨g.vars,g.begins,g.maybes,g.a1T,?_,g.views,g.doings,g.goal,λf I=>?_⟩,h.spans,q⟩
    .show (s.facts++[_]).length<=12;rw[aK];simp;lia
    .rcases aX.mp I with h3|h3
     .exact g.facts f h3
     .rw[bb]at h3;subst h3;exact MQ h1
 |opened n=>
  unfold bu;simp only;split
  .exact h
  .split
   .exact h
   .rename_i h1 r;exact h.a1X (uU.first h _ (by unfold Vberaf.STATES at r;lia))
 |play d=>
  refine j _ λp o=>?_;simp only;split
  .exact h
  .split
   .exact h
   .rename_i h1 r;exact h.a1X ((h.play p o).played g (by lia) (by unfold Vberaf.PAST at r;lia))
 |tell f=>
  refine j _ λp o=>?_;simp only;split
  .exact h
  .rename_i x t;split
   .exact h
   .rename_i K;split
    .exact h
    .split
     .exact h
     .split
      .exact h
      .rename_i r;refine h.a1X ((h.play p o).told ?_ (by unfold Vberaf.PAST at r;lia));unfold cZ at K;cases X:(bB x).holds p.now with
       |true=>rfl
       |false=>rw[X]at K;simp at K
 |bar f=>refine j _ λp o=>?_;split<;>exact h
 |lead n=>exact u n _ λp m l=>rfl
 |level n=>exact u n _ λp m l=>rfl
 |hint n=>exact u n _ λp m l=>rfl
 |strategy n=>refine u n _ λp m l=>?_;split<;>rfl
 |sight=>refine j _ λp o=>?_;simp only;split<;>exact h
 |map n=>exact j _ λp o=>h
 |view=>exact j _ λp o=>h
 |belief=>exact j _ λp o=>h
 |known=>exact j _ λp o=>h
 |actual=>exact j _ λp o=>h
 |past=>exact j _ λp o=>h
 |purse=>exact j _ λp o=>h
def fV:List (List Int)->List Int
 |[]=>[]
 |r::a=>0::(r.length:Int)::(r++fV a)
def E_:∀(a b:List (List Int)),fV (a++b)=fV a++fV b
 |[],b=>rfl
 |r::a,b=>by simp[fV,E_ a b]
nonrec def V5{l r t:List Int}(h:PyFlat.row l=Z_ (r,t)):l=(r.length:Int)::(r++t):=by
 cases l with
 |nil=>cases h
 |cons n x=>
  unfold PyFlat.row at h;simp only at h;split at h
  .rename_i hc;cases az h;have:((x.take n.toNat).length:Int)=n:=by rw[eM];lia
   rw[this,Bt]
  .cases h
def SF{l c t}(h:PyFlat.call oS l=Z_ (c,t)):∃r,c=[[0],r]/\l=0::(r.length:Int)::(r++t):=by
 cases l with
 |nil=>cases h
 |cons p x=>
  unfold PyFlat.call at h;simp only at h;unfold oS at h;by_cases b:p=0
  .subst b;simp only[if_true]at h;rw[i0n (by lia)]at h;simp only[PyFlat.rows,List.drop_zero]at h;cases a:PyFlat.row x with
   |none=>rw[a]at h;cases h
   |some y=>obtain⟨r,u⟩:=y;rw[a]at h;simp only[iY,Prod.mk.injEq]at h;obtain⟨h1,d⟩:=h;subst d;refine⟨r,by rw[<-h1];simp,?_⟩;rw[V5 a]
  .rw[i0n b]at h;cases h
def Jb:∀(f:Nat) (l:List Int) (a:List (List (List Int))),Ga oS f l=Z_ a->∃b:List (List Int),a=b.map (λr=>[[0],r])/\l=fV b
 |f,[],a,h=>by
  have:Z_ []=Z_ a:=by cases f<;>exact h
  cases this;exact⟨[],rfl,rfl⟩
 |0,_::_,a,h=>by cases h
 |f+1,p::r,a,h=>by
  rw[Ga]at h;cases d:PyFlat.call oS (p::r) with
  |none=>rw[d]at h;cases h
  |some y=>
   obtain⟨c,t⟩:=y;rw[d]at h;simp only at h;cases e:Ga oS f t with
   |none=>rw[e]at h;cases h
   |some g=>rw[e]at h;cases az h;obtain⟨b,i,j⟩:=Jb f t g e;obtain⟨k,m,n⟩:=SF d;exact⟨k::b,by rw[i,m];rfl,by rw[n,j];rfl⟩
def uV(s:ae)(b:List (List Int)):List Int:=(gO s b).flatMap λa=>(a.length:Int)::a
def Ly:∀(a:List (List Int)) (s:ae),PyFlat.played q_ s (a.map λr=>[r])=gO s a
 |[],s=>rfl
 |r::a,s=>by show (q_ s [r]).2::PyFlat.played q_ (q_ s [r]).1 (a.map λr=>[r])=_;rw[Ly a];rfl
structure V6(r:List Int):Prop where
 pos:1<=r.length
 len:r.length<=80
def a6n(a b c d e:Int)(t:List Int):VberafNeutral.asked1 [a::b::c::d::e::t]=(decide (1<=(a::b::c::d::e::t).length)&&(decide ((a::b::c::d::e::t).length<=80)&&(a::b::c::d::e::t).all VberafNeutral.whole64)):=by
 cases a with
 |negSucc n=>kernel_rfl!
 |ofNat n=>
  iterate 23 (obtain _|n:=n;· kernel_rfl!)
  kernel_rfl!
def Q8{r}(h:VberafNeutral.asked1 [r]=ZY):V6 r:=by
 match r,h with
 |[],h=>exact absurd h (by decide +kernel)
 |[_],_=>exact⟨by simp,by simp⟩
 |[_,_],_=>exact⟨by simp,by simp⟩
 |[_,_,_],_=>exact⟨by simp,by simp⟩
 |[_,_,_,_],_=>exact⟨by simp,by simp⟩
 |a::b::c::d::e::t,h=>rw[a6n]at h;simp only[a_,decide_eq_true_eq]at h;exact⟨h.1,h.2.1⟩
def WB{l}(h:yc l=ZY):∃a:List (List Int),l=fV a/\a.length<=100/\(∀r∈a,V6 r)/\w9 l=uV dc a:=by
 unfold yc at h;unfold w9;cases b:PyVberaf.calls l with
 |none=>rw[b]at h;cases h
 |some cs=>
  rw[b]at h;simp only[a_]at h;unfold PyVberaf.calls at b;cases c:Ga oS l.length l with
  |none=>rw[c]at b;cases b
  |some e=>
   rw[c]at b;cases az b;obtain⟨a,f,g⟩:=Jb _ _ _ c;have i:e.map PyVberaf.whole=a.map λr=>[r]:=by rw[f,bq];rfl
   rw[i]at h ⊢;refine⟨a,g,?_,λr j=>?_,?_⟩
   .have:=h.1;unfold PyFlat.atMost at this;simpa using this
   .have d:=h.2;unfold VberafNeutral.asked at d;rw[a_,cb]at d;exact Q8 (d.1 [r] (aF.mpr ⟨r,j,rfl⟩))
   .simp only;rw[show VberafNeutral.start=dc from rfl,Ly];rfl
open PySem L2
def kl(x:dM):List Int:=[0-(x.left:Int),(x.price:Int),(x.fact:Int)]
def WC(a b:dM):Prop:=b.left<a.left\/(a.left=b.left/\(a.price<b.price\/(a.price=b.price/\a.fact<b.fact)))
def YQ(a b:dM):LY (kl a) (kl b)=ZY↔WC a b:=by unfold kl WC;simp only[LY,l6,a_,Bool.not_eq_true',decide_eq_true_eq,decide_eq_false_iff_not,bR,or_false,and_false];lia
def Jc(a b:dM):wa a b=ZY↔b.left<a.left\/(a.left=b.left/\a.price<b.price):=by unfold wa;simp only[l6,a_,decide_eq_true_eq,beq_iff_eq]
def a0D(P:List dM)(o:Option dM):Prop:=match o with
 |none=>P=[]
 |some x=>x∈P/\∀y∈P,¬WC y x
abbrev Xb(o:Option dM)(x:dM):Option dM:=match o with
 |none=>Z_ x
 |some y=>if wa x y=ZY then Z_ x else Z_ y
def V7:∀(r P:List dM) (o:Option dM),a0D P o->(P++r).Pairwise (λa b=>a.fact<b.fact)->a0D (P++r) (r.foldl Xb o)
 |[],P,o,h,_=>by rwa[e9]
 |x::r,P,o,h,f=>by
  have e:P++x::r=(P++[x])++r:=by simp
  rw[e]at f ⊢;refine V7 r (P++[x]) (Xb o x) ?_ f;have i:∀y∈P,y.fact<x.fact:=λy c=>by have:=(Cp.mp (Cp.mp f).1).2.2 y c x (by simp);exact this
  cases o with
  |none=>
   have h:P=[]:=h;subst h;refine⟨by simp,λy c=>?_⟩;have:y=x:=by simpa using c
   subst this;unfold WC;lia
  |some z=>
   obtain⟨h1,g⟩:=h;have hzx:=i z h1;show a0D (P++[x]) (if wa x z=ZY then Z_ x else Z_ z);by_cases d:wa x z=ZY
   .rw[i0p d];rw[Jc]at d;refine⟨by simp,λy c=>?_⟩;rcases aX.mp c with h3|h3
    .have:=g y h3;unfold WC at this ⊢;lia
    .have:y=x:=by simpa using h3
     subst this;unfold WC;lia
   .rw[i0n d];rw[Jc]at d;refine⟨b9 _ h1,λy c=>?_⟩;rcases aX.mp c with h3|h3
    .exact g y h3
    .have:y=x:=by simpa using h3
     subst this;unfold WC;lia
def Q9{l:List dM}(h:l.Pairwise λa b=>a.fact<b.fact):a0D l (jY l):=by have:=V7 l [] ZZ rfl (by simpa using h);rw[oP]at this;exact this
def Qa{l:List dM}{x}(h:l.Pairwise λa b=>a.fact<b.fact)(c:x∈l)(hm:∀y∈l,¬WC y x):jY l=Z_ x:=by
 have ok:=Q9 h;cases hw:jY l with
 |none=>rw[hw]at ok;have ok:l=[]:=ok;subst ok;cases c
 |some z=>
  rw[hw]at ok;obtain⟨h1,f⟩:=ok;have g:=f x c;have i:=hm z h1;have ef:z.fact=x.fact:=by unfold WC at g i;lia
  have:∀(l:List dM),l.Pairwise (λa b=>a.fact<b.fact)->z∈l->x∈l->z=x:=by
   intro l;induction l with
   |nil=>intro _ h;cases h
   |cons y l j=>
    intro d k c;rw[fh]at d;rcases aL.mp k with e|e<;>rcases aL.mp c with e'|e'
    .rw[e,e']
    .have:=d.1 x e';rw[<-e]at this;lia
    .have:=d.1 z e;rw[<-e']at this;lia
    .exact j d.2 e e'
  rw[this l h h1 c]
structure Fa where
 left:Nat->Nat
 price:Nat->Nat
 lev:Nat->Option Nat
 tell:Nat->Bool
def Fa.mk1(F:Fa)(n:Nat)(k:Nat):dM:={fact:=n,left:=F.left n,price:=F.price n,level:=k}
def Fa.key(F:Fa)(n:Nat):List Int:=[0-(F.left n:Int),(F.price n:Int),(n:Int)]
def Fa.told(F:Fa)(N:Nat):List Nat:=(bL N).filter F.tell
def Fa.leads(F:Fa)(N:Nat):List dM:=(F.told N).filterMap λn=>(F.lev n).map (F.mk1 n)
def Fa.mono(F:Fa)(N:Nat):(F.leads N).Pairwise λa b=>a.fact<b.fact:=by unfold Fa.leads;rw[List.pairwise_filterMap];refine AZ (R:=λa b=>a<b) (λ{a b} h x c y d=>?_) (List.pairwise_lt_range.filter _);obtain⟨k,_,rfl⟩:=gu.mp c;obtain⟨j,_,rfl⟩:=gu.mp d;exact h
def Fa.a5l(F:Fa){N:Nat}{a:List (List Int)}(b:a.Perm ((F.told N).map F.key))(h:∀n,F.key n∈a->F.lev n=ZZ):jY (F.leads N)=ZZ:=by
 have:F.leads N=[]:=by unfold Fa.leads;rw[List.filterMap_eq_nil_iff];intro n c;rw[h n (b.symm.subset (aF.mpr ⟨n,c,rfl⟩))];rfl
 rw[this];rfl
def Fa.weakS(F:Fa){N j n k:Nat}{b:List (List Int)}(g:b.Perm ((F.told N).map F.key))(hs:b.Pairwise λx y=>LY y x=ZX)(e:b[j]?=Z_ (F.key n))(l:n∈F.told N)(o:F.lev n=Z_ k)(p:∀i<j,∀m,b[i]?=Z_ (F.key m)->F.lev m=ZZ):jY (F.leads N)=Z_ (F.mk1 n k):=by
 refine Qa (F.mono N) (dz.mpr ⟨n,l,by rw[o];rfl⟩) λy r=>?_;obtain⟨m,hm,s⟩:=dz.mp r;obtain⟨q,f,rfl⟩:=gu.mp s;have c:=g.symm.subset (aF.mpr ⟨m,hm,rfl⟩);obtain⟨i,d⟩:=jI c;rw[<-YQ];show ¬LY (F.key m) (F.key n)=ZY;rw[Bool.not_eq_true];rcases Nat.lt_trichotomy i j with h|h|h
 .rw[p i h m d]at f;cases f
 .subst h;rw[e]at d;have:n=m:=by
   have:=az d;unfold Fa.key at this;injection this with _ this
   injection this with _ this
   injection this with this _
   lia
  subst this;have:∀a:List Int,LY a a=ZX:=by
   intro a;induction a with
   |nil=>rfl
   |cons x a t=>simp[LY,t]
  exact this _
 .obtain⟨u,v⟩:=ax.mp d;obtain⟨w,z⟩:=ax.mp e;have:=vZ.mp hs j i w u h;rw[v,z]at this;exact this
def JZ(s:ae)(p:bM)(room:Nat):Fa where
 left n:=(s.facts[n]?).elim 0 λf=>(d7 (bB f) p.belief).length
 price n:=(s.facts[n]?).elim 0 λf=>f.price
 lev n:=(s.facts[n]?).elim ZZ λf=>nE (a9 s) (ay s) room (d7 (bB f) p.belief)
 tell n:=(s.facts[n]?).elim ZX λf=>decide (cZ (bB f) p.belief p.now p.purse=0)
def V8(s:ae)(p:bM)(room:Nat):Vberaf.leads (a9 s) (ay s) room (s.facts.map bB) p.belief p.now p.purse=(JZ s p room).leads s.facts.length:=by
 unfold Vberaf.leads Fa.leads Fa.told;rw[List.filterMap_filter];have c:∀(a:List vX) (k:Nat),(∀i,a[i]?=s.facts[k+i]?)->(((a.map bB).zipIdx k).filterMap λf=>if cZ f.1 p.belief p.now p.purse≠0 then ZZ else (nE (a9 s) (ay s) room (d7 f.1 p.belief)).map λn=>({fact:=f.2,left:=(d7 f.1 p.belief).length,price:=f.1.price,level:=n}:dM)) =
   (List.range' k a.length).filterMap λn=>if (JZ s p room).tell n=ZY then ((JZ s p room).lev n).map ((JZ s p room).mk1 n) else ZZ:=by
  intro a;induction a with
  |nil=>intro k _;rfl
  |cons f a g=>
   intro k d;have h:s.facts[k]?=Z_ f:=by rw[<-Nat.add_zero k,<-d 0];rfl
   rw[aQ,g9,aZ,List.range'_succ,dD,dD,g (k+1) λi=>by rw[show k+1+i=k+(i+1) by lia,<-d (i+1)];simp];have e:(if cZ (bB f) p.belief p.now p.purse≠0 then ZZ else (nE (a9 s) (ay s) room (d7 (bB f) p.belief)).map λn=>({fact:=k,left:=(d7 (bB f) p.belief).length,price:=(bB f).price,level:=n}:dM))=if (JZ s p room).tell k=ZY then ((JZ s p room).lev k).map ((JZ s p room).mk1 k) else ZZ:=by
    unfold JZ Fa.mk1;simp only[h,Option.elim_some,decide_eq_true_eq];by_cases b:cZ (bB f) p.belief p.now p.purse=0
    .rw[i0n (by simpa using b),i0p b];rfl
    .rw[i0p b,i0n b]
   simp only at e ⊢;rw[e]
 have:=c s.facts 0 λi=>by rw[n9]
 rw[this,List.range_eq_range']
def C4(s:ae)(v:VV)(d:dU):∃x,t4 s v d=.tup [x,eV (bZ s v d)]:=by
 unfold t4 bZ;cases cj s.puzzle d v with
 |none=>exact⟨_,rfl⟩
 |some w=>exact⟨_,rfl⟩
def Oy{s:ae}{v d}(g:mq s)(a:nB s v)(b:d∈s.puzzle.doings):nB s (bZ s v d):=by
 unfold bZ;cases h:cj s.puzzle d v with
 |none=>exact a
 |some w=>exact D9 a (g.doings d b) h
def V9{s v}{a:Nat×VV}(g:mq s)(b:nB s v)(c:a∈qv s v):nB s a.2:=by
 obtain⟨d,f,e⟩:=dz.mp (show a∈(s.puzzle.doings.zipIdx).filterMap λd=>(cj s.puzzle d.1 v).map λw=>(d.2,w) from c);cases h:cj s.puzzle d.1 v with
 |none=>rw[h]at e;cases e
 |some w=>rw[h]at e;cases az e;exact D9 b (g.doings d.1 (List.fst_mem_of_mem_zipIdx f)) h
def zV{s:ae}{v}:∀(ds:List dU) (k:Nat) (R:List VV),v∈R->jh R (ds.map (bZ s v))=jh R ((((ds.zipIdx k).filterMap λd=>(cj s.puzzle d.1 v).map λw=>(d.2,w)):List (Nat×VV)).map λa=>a.2)
 |[],k,R,_=>rfl
 |d::ds,k,R,b=>by
  have f:jh R ((d::ds).map (bZ s v))=jh (kQ R (bZ s v d)) (ds.map (bZ s v)):=rfl;rw[f,g9,dD];cases e:cj s.puzzle d v with
  |none=>
   have c:bZ s v d=v:=by unfold bZ;rw[e];rfl
   have g:kQ R v=R:=by unfold kQ;rw[i0p (by simpa using b)]
   rw[c,g];exact zV ds (k+1) R b
  |some w=>
   have c:bZ s v d=w:=by unfold bZ;rw[e];rfl
   rw[c];obtain⟨l,h⟩:=Oq R w;exact zV ds (k+1) (kQ R w) (by rw[h];exact b9 _ b)
def Oz{s:ae}{v R}(a:v∈R):jh R (s.puzzle.doings.map (bZ s v))=Ds s R v:=zV s.puzzle.doings 0 R a
def Lz{R:List VV}{w}:(eF (m7 R) (kV w)).isSome=R.contains w:=by
 cases a:eF (m7 R) (kV w) with
 |some d=>
  obtain⟨x,b,e⟩:=aF.mp (lJ a);injection e with c _
  rw[s_ c]at b;simp[b]
 |none=>have:=wW a;have f:w∉R:=λhm=>this (by unfold m7;rw[bq];exact aF.mpr ⟨w,hm,rfl⟩);simp[f]
def Va{R:List VV}{w}(h:R.contains w=ZX):yf (m7 R) (kV w) (.bl ZY)=m7 (kQ R w):=by
 have a:eF (m7 R) (kV w)=ZZ:=by
  cases a:eF (m7 R) (kV w) with
  |none=>rfl
  |some d=>have:=Lz (R:=R) (w:=w);rw[a,h]at this;cases this
 rw[ou a];unfold kQ;rw[i0n (by rw[h];exact aB)];simp[m7]
def Vb(R:List VV)(w:VV):(kQ R w).length<=R.length+1:=by unfold kQ;split<;>simp
def LA:∀(ws:List VV) (R:List VV),(jh R ws).length<=R.length+ws.length
 |[],R=>aN _
 |w::ws,R=>by have h1:=LA ws (kQ R w);have h2:=Vb R w;have e:jh R (w::ws)=jh (kQ R w) ws:=rfl;rw[e,aZ];lia
def Qb(R:List VV)(ws:List VV)(w:VV):jh R (ws++[w])=kQ (jh R ws) w:=by unfold jh;rw[gD];rfl
structure SG(B:QA)(a b:ak)(m m':M)(x y:MO):Prop where
 fa:m a=ZZ
 fb:m b=ZZ
 ne:a≠b
 oa:m' a=Z_ x
 ob:m' b=Z_ y
 keep:oW B m m'
def SG.mv{s U B a b m m' d x y}(h:SG B a b m m' x y)(c:bT s U B m)(k:Mv B m' d):SG B a b m d x y:=by have e:=c.noN h.fa;have f:=c.noN h.fb;exact⟨h.fa,h.fb,h.ne,by rw[k a e.1 e.2];exact h.oa,by rw[k b f.1 f.2];exact h.ob,h.keep.mv k⟩
def SG.a5k{B a b m m' x y}(h:SG B a b m m' x y)(c:MO):SG B a b m (bQ m' a c) c y:=⟨h.fa,h.fb,h.ne,aS,by rw[ao (aG h.ne)];exact h.ob,h.keep.new h.fa⟩
def SG.setB{B a b m m' x y}(h:SG B a b m m' x y)(c:MO):SG B a b m (bQ m' b c) x c:=⟨h.fa,h.fb,h.ne,by rw[ao h.ne];exact h.oa,aS,h.keep.new h.fb⟩
def bT.a2T{s U B m0 m a o}(c:bT s U B m)(b:bT s U B m0)(h:m0 a=ZZ):bT s U B (bQ m a o):=by have n:=b.noN h;exact c.congr (ao (aG n.1)) (ao (aG n.2))
inductive a6c:Prop|mk s p U B:A'=[.ref B.q]->i_ s p U B B'->nB s p.now->(∀v∈cn (ir s p.now),v∈U)->(∀a,Mv B B' a->bT s U B a->D' (if (ir s p.now).over=ZY then .non else .lst ((cn (ir s p.now)).map eV)) a)->a6c
def C5:dR (u6 a2b) og a6c:=by
 intro ds m Q h;obtain⟨s,p,U,B,rfl,c,hv,hU,q⟩:=h;have L:=c.pl.q;dsimp[u6,og,aW _ L,nr];intro z F A t;have n1:=c.ca.noN F;have q1:B.q≠z:=λe=>by rw[e,F]at L;cases L
 have C:z≠A:=λe=>by rw[<-e,aS]at t;cases t
 have t:m A=ZZ:=by rw[ao (aG C)]at t;exact t
 have n2:=c.ca.noN t;have q2:B.q≠A:=λe=>by rw[e,t]at L;cases L
 have X:(bQ (bQ m z (.lst [eV p.now])) A (.dic [])) B.q=Z_ (.ins j_ (f9 B p)):=by rwa[ao q2,ao q1]
 dsimp[aW _ X,nr,gg,cy]
 let I1:LI3:=λn σ G=>∃(i fuel:Nat) (g:t8) (x4 M N:Option D),n=201-i/\σ=[Z_ (.ref B.q),Z_ (.ref z),Z_ (.ref A),Z_ (.int (i:Int)),x4,M,N]/\J5 s g i/\(∀v∈cn g,nB s v)/\ir s p.now=Gu s fuel i g/\fuel+i=201/\bT s U B G/\SG B z A m G (.lst ((cn g).map eV)) (.dic (m7 (cn g)))
 refine⟨I1,
  ⟨201,0,201,{nodes:=[{state:=p.now,from_:=0,act:=0}]},ZZ,ZZ,ZZ,rfl,rfl,Xa s p.now,?_,rfl,rfl,?_,?_⟩,?_⟩
 .intro v Y;have:v=p.now:=by simpa[cn] using Y
  rwa[this]
 .exact (c.ca.a2T c.ca F).a2T c.ca t
 .exact⟨F,t,C,by rw[ao C,aS];rfl,by rw[aS];rfl,((oW.refl B m).new F).new t⟩
 .rintro n σ G ⟨i,fuel,g,x4,M,N,rfl,rfl,Z,vk,O,hfu,ca,H⟩;dsimp[f7 H.oa,ah];refine dY (λk=>?_) λk=>?_
  .have k:i<(cn g).length:=by simp at k;lia
   obtain⟨v,E⟩:∃v,(cn g)[i]?=Z_ v:=⟨_,aj k⟩
   have u:=aJ E;have hl200:=Z.len;obtain⟨fuel,rfl⟩:∃f,fuel=f+1:=⟨fuel-1,by lia⟩
   have P:∀w∈cn g,w∈U:=λw hw=>hU w (by rw[O];obtain⟨l,el⟩:=EY (s:=s) (fuel+1) i g;rw[el];exact b9 _ hw);rw[Aq E]at O;have hat:tL ((cn g).map eV) (i:Int)=Z_ (eV v):=d9 (by rw[aR,E];rfl);have hnd:eK G (.ref z)=ZZ:=jf H.oa;dsimp[hnd,fU H.oa,hat];refine ow (c.keep H.keep ca) (P v u) (vk v u) λm1 h1 h2=>?_;have tw1:=H.mv c.ca h1;dsimp[dQ,cS,f_];refine⟨λj σ I=>∃(M N:Option D),σ=[Z_ (.ref B.q),Z_ (.ref z),Z_ (.ref A),Z_ (.int (i:Int)),Z_ (.lst (ip s v)),M,N]/\bT s U B I/\SG B z A m I (.lst ((jh (cn g) ((s.puzzle.doings.take j).map (bZ s v))).map eV)) (.dic (m7 (jh (cn g) ((s.puzzle.doings.take j).map (bZ s v))))),
    ⟨_,_,rfl,h2,tw1⟩,λ_ _ _ _ _=>trivial,?_,?_⟩
   .rintro j dd σ I S ⟨M,N,rfl,y,a⟩;unfold ip at S;obtain⟨d,V,rfl⟩:=VG S;obtain⟨xx,exx⟩:=C4 s v d;have hjl:=(ax.mp V).1;have hd20:=c.good.a1T;have hlen:=LA ((s.puzzle.doings.take j).map (bZ s v)) (cn g);rw[ah,eM]at hlen;have hes:jh (cn g) ((s.puzzle.doings.take (j+1)).map (bZ s v))=kQ (jh (cn g) ((s.puzzle.doings.take j).map (bZ s v))) (bZ s v d):=by
     rw[eW V,bU,List.map_singleton,Qb]
    simp only[hes];generalize jh (cn g) ((s.puzzle.doings.take j).map (bZ s v))=R at a hlen ⊢;rw[exx];have hl1:(m7 R).length<16000000:=by unfold m7;rw[ah];lia
    have hl2:(R.map eV).length<1000000:=by rw[ah];lia
    dsimp[gg,iM a.ob,Lz];refine dY (λJ=>?_) λJ=>?_
    .have J:R.contains (bZ s v d)=ZX:=PB J;have hb2:(bQ I A (.dic (m7 (kQ R (bZ s v d))))) z=Z_ (.lst (R.map eV)):=by rw[ao C];exact a.oa
     dsimp[gg,a.ob,hl1,Va J,hb2,hl2];refine⟨_,_,rfl,(y.a2T c.ca t).a2T c.ca F,?_⟩;have:=(a.setB (.dic (m7 (kQ R (bZ s v d))))).a5k (.lst (R.map eV++[eV (bZ s v d)]));have e:kQ R (bZ s v d)=R++[bZ s v d]:=by unfold kQ;rw[i0n (by rw[J];exact aB)]
     rw[e]at this ⊢;rwa[bU]
    .have J:R.contains (bZ s v d)=ZY:=by cases h:R.contains (bZ s v d)<;>simp_all
     have e:kQ R (bZ s v d)=R:=by unfold kQ;rw[i0p J]
     rw[e];exact⟨_,_,rfl,y,a⟩
   .rintro σ I ⟨M,N,rfl,y,a⟩;unfold ip at a;rw[ah,cO,Oz u]at a;dsimp[f7 a.oa,ah];obtain⟨st1,st2⟩:=Z.step E;refine dY (λr=>?_) λr=>?_
    .have r:200<(Ds s (cn g) v).length:=by simp at r;lia
     have K:(ir s p.now).over=ZY:=by rw[O];exact EX _ _ _ (st2 r)
     have:=q (base B m I) (wY B m I) (wZ y);rw[i0p K]at this;exact .sub (oW.base a.keep) this
    .have r:(Ds s (cn g) v).length<=200:=by simp at r;lia
     obtain⟨si2,es⟩:=st1 r;refine⟨201-(i+1),by lia,i+1,fuel,Lp s i g v,_,_,_,rfl,by simp;exact⟨rfl,rfl,rfl⟩,si2,λw hw=>?_,O,by lia,y,by rwa[es]⟩;rw[es,<-Oz u]at hw;have:∀(T:List VV) (R:List VV),(∀w∈R,nB s w)->(∀w∈T,nB s w)->∀w∈jh R T,nB s w:=by
      intro T;induction T with
      |nil=>intro R W _;exact W
      |cons x T ih=>
       intro R W hw;refine ih (kQ R x) (λw hm=>?_) λw hm=>hw w (by simp[hm]);unfold kQ at hm;split at hm
       .exact W w hm
       .rcases aX.mp hm with h|h
        .exact W w h
        .rw[bb]at h;subst h;exact hw w (by simp)
     refine this _ _ vk (λw hm=>?_) w hw;obtain⟨d,V,rfl⟩:=aF.mp hm;exact Oy c.good (vk v u) V
  .have k:(cn g).length<=i:=by simp at k;lia
   rw[Dt k]at O;have q:=q (base B m G) (wY B m G) (wZ ca);rw[O,Z.over,i0n aB]at q;refine A7.out H.oa (m0:=base B m G) ?_ (λb o hb _=>oW.base H.keep b o hb) q;unfold base;rwa[i0n (by simp[n1.1,n1.2])]
abbrev Bg:=List (VV×List VV×ak)
def vQ(G:Bg):List (K2×D):=G.map λx=>(kV x.1,D.ref x.2.2)
structure T3(B:QA)(g0:ak)(m m':M)(ps:List (VV×VV))(G:Bg):Prop where
 grp:m' g0=Z_ (.dic (vQ G))
 a1Y:m g0=ZZ
 each:∀x∈G,m' x.2.2=Z_ (.lst (x.2.1.map eV))/\x.2.2≠g0/\m x.2.2=ZZ
 nd:(G.map λx=>x.2.2).Nodup
 keys:(G.map λx=>x.1).Nodup
 len:G.length<=ps.length
 a3J:∀x∈G,x.2.1.length<=ps.length
 has:∀x∈G,∀v∈x.2.1,(x.1,v)∈ps
 all:∀e∈ps,∃x∈G,x.1=e.1/\e.2∈x.2.1
 keep:oW B m m'
def a0m{G:Bg}{x:VV×List VV×ak}(a:x∈G)(b:(G.map λx=>x.1).Nodup):eF (vQ G) (kV x.1)=Z_ (.ref x.2.2):=by
 induction G with
 |nil=>cases a
 |cons y G c=>
  unfold vQ;rw[aQ,mP];rw[aQ,bX]at b;by_cases e:kV y.1=kV x.1
  .rw[i0p e];have d:=s_ e;rcases aL.mp a with h|h
   .rw[h]
   .exact absurd (aF.mpr ⟨x,h,d.symm⟩) b.1
  .rw[i0n e];rcases aL.mp a with h|h
   .exact absurd (by rw[h]) e
   .exact c h b.2
def YR{G w}(h:∀x∈G,x.1≠w):eF (vQ G) (kV w)=ZZ:=by
 cases a:eF (vQ G) (kV w) with
 |none=>rfl
 |some d=>
  exfalso;obtain⟨x,b,e⟩:=aF.mp (lJ a);injection e with c e2
  exact h x b (s_ c)
def uc{α β:Type}{f:α->β}:∀{l:List α} {x z:α},(l.map f).Nodup->x∈l->z∈l->f z=f x->z=x
 |y::l,x,z,a,b,c,e=>by
  rw[aQ,bX]at a;rcases aL.mp b with h|h<;>rcases aL.mp c with h'|h'
  .rw[h,h']
  .exact absurd (aF.mpr ⟨z,h',by rw[e,h]⟩) a.1
  .exact absurd (aF.mpr ⟨x,h,by rw[<-e,h']⟩) a.1
  .exact uc a.2 h h' e
def OA(w v:VV)(G:Bg):Bg:=G.map λx=>if x.1=w then (x.1,x.2.1++[v],x.2.2) else x
def SH(w v:VV)(G:Bg):(OA w v G).map (λx=>x.1)=G.map λx=>x.1:=by unfold OA;rw[bq];refine bO λy hy=>?_;simp only[df];split<;>rfl
def Vc(w v:VV)(G:Bg):(OA w v G).map (λx=>x.2.2)=G.map λx=>x.2.2:=by unfold OA;rw[bq];refine bO λy hy=>?_;simp only[df];split<;>rfl
def T3.more{B k m m' ps G v}{x:VV×List VV×ak}(ok:T3 B k m m' ps G)(d:x∈G):T3 B k m (bQ m' x.2.2 (.lst (x.2.1.map eV++[eV v]))) (ps++[(x.1,v)]) (OA x.1 v G):=by
 obtain⟨k1,o,p⟩:=ok.each x d;refine⟨?_,ok.a1Y,λy b=>?_,by rw[Vc];exact ok.nd,by rw[SH];exact ok.keys,?_,λy b=>?_,λy b u c=>?_,λe q=>?_,ok.keep.new p⟩
 .rw[ao (aG o),ok.grp]
  congr 2
  unfold vQ OA;rw[bq];refine bO λy b=>?_;simp only[df];split<;>rfl
 .obtain⟨z,a,rfl⟩:=aF.mp b;obtain⟨r,l,n⟩:=ok.each z a;by_cases e:z.1=x.1
  .have i:z=x:=uc ok.keys d a e;subst i;rw[i0p rfl];exact⟨by rw[aS,bU];rfl,l,n⟩
  .rw[i0n e];have j:z.2.2≠x.2.2:=λg=>e (by rw[uc (f:=λx:VV×List VV×ak=>x.2.2) ok.nd d a g]);exact⟨by rwa[ao j],l,n⟩
 .unfold OA;rw[ah,aK];have:=ok.len;lia
 .obtain⟨z,a,rfl⟩:=aF.mp b;have:=ok.a3J z a;rw[aK];split
  .simp only[aK,List.length_singleton];lia
  .lia
 .obtain⟨z,a,rfl⟩:=aF.mp b;by_cases e:z.1=x.1
  .rw[i0p e]at c ⊢;simp only at c ⊢;rcases aX.mp c with h|h
   .exact b9 _ (ok.has z a u h)
   .rw[bb]at h;subst h;rw[e];simp
  .rw[i0n e]at c ⊢;exact b9 _ (ok.has z a u c)
 .rcases aX.mp q with h|h
  .obtain⟨z,a,s,g⟩:=ok.all e h;refine⟨_,aF.mpr ⟨z,a,rfl⟩,?_,?_⟩
   .split<;>exact s
   .split
    .exact b9 _ g
    .exact g
  .rw[bb]at h;subst h;refine⟨_,aF.mpr ⟨x,d,rfl⟩,?_,?_⟩
   .rw[i0p rfl]
   .rw[i0p rfl];simp
def T3.first{B l m m' ps G w v c o}(ok:T3 B l m m' ps G)(t:∀x∈G,x.1≠w)(p:m' c=ZZ)(d:m c=ZZ):T3 B l m (bQ (bQ (bQ m' c o) l (.dic (vQ G++[(kV w,.ref c)]))) c (.lst [eV v])) (ps++[(w,v)]) (G++[(w,[v],c)]):=by
 have g:c≠l:=by intro e;subst e;rw[ok.grp]at p;cases p
 have f:∀x∈G,x.2.2≠c:=λx i e=>by obtain⟨n,_,_⟩:=ok.each x i;rw[e,p]at n;cases n
 refine⟨?_,ok.a1Y,λy j=>?_,?_,?_,?_,λy j=>?_,λy j u r=>?_,λe A=>?_,((ok.keep.new d).new ok.a1Y).new d⟩
 .rw[ao (aG g),aS];simp[vQ]
 .rcases aX.mp j with h|h
  .obtain⟨n,s,C⟩:=ok.each y h;exact⟨by rwa[ao (f y h),ao s,ao (f y h)],s,C⟩
  .rw[bb]at h;subst h;exact⟨by rw[aS];rfl,g,d⟩
 .rw[bU,eE];exact⟨ok.nd,by simp,λa q b k=>by obtain⟨x,i,rfl⟩:=aF.mp q;simp at k;subst k;exact f x i⟩
 .rw[bU,eE];exact⟨ok.keys,by simp,λa q b k=>by obtain⟨x,i,rfl⟩:=aF.mp q;simp at k;subst k;exact t x i⟩
 .rw[aK,aK];have:=ok.len;simp;lia
 .rw[aK];rcases aX.mp j with h|h
  .have:=ok.a3J y h;lia
  .rw[bb]at h;subst h;simp
 .rcases aX.mp j with h|h
  .exact b9 _ (ok.has y h u r)
  .rw[bb]at h;subst h;have:u=v:=by simpa using r
   subst this;simp
 .rcases aX.mp A with h|h
  .obtain⟨z,D,E⟩:=ok.all e h;exact⟨z,b9 _ D,E⟩
  .rw[bb]at h;subst h;exact⟨(w,[v],c),by simp,rfl,by simp⟩
def T3.mv{s U B b m m' a ps G}(ok:T3 B b m m' ps G)(c:bT s U B m)(k:Mv B m' a):T3 B b m a ps G:=by
 refine⟨?_,ok.a1Y,λx e=>?_,ok.nd,ok.keys,ok.len,ok.a3J,ok.has,ok.all,ok.keep.mv k⟩
 .have:=c.noN ok.a1Y;rw[k _ this.1 this.2];exact ok.grp
 .obtain⟨f,g,d⟩:=ok.each x e;have:=c.noN d;exact⟨by rwa[k _ this.1 this.2],g,d⟩
abbrev Z9:=List (VV×List VV)
def SI(G:Z9):List (K2×D):=G.map λx=>(kV x.1,D.lst (x.2.map eV))
def AM(G:Z9)(w:VV):List VV:=((G.find? λx=>x.1==w).map λx=>x.2).getD []
def WD{G w}:(eF (SI G) (kV w)).getD (.lst [])=.lst ((AM G w).map eV):=by
 unfold AM;induction G with
 |nil=>rfl
 |cons x G a=>
  unfold SI;rw[aQ,mP];by_cases e:x.1=w
  .rw[i0p (by rw[e]),eI (by simpa using e)];rfl
  .rwa[i0n λh=>e (s_ h),d6 (by simpa using e)]
def OB{G:Z9}{w v}(c:(G.map λx=>x.1).Nodup):v∈AM G w↔∃x∈G,x.1=w/\v∈x.2:=by
 unfold AM;induction G with
 |nil=>simp
 |cons x G d=>
  rw[aQ,bX]at c;by_cases e:x.1=w
  .rw[eI (by simpa using e)];simp only[dZ,qD];constructor
   .intro h;exact⟨x,by simp,e,h⟩
   .rintro⟨y,a,b,h⟩;rcases aL.mp a with h1|h1
    .rwa[<-h1]
    .exact absurd (aF.mpr ⟨y,h1,by rw[b,e]⟩) c.1
  .rw[d6 (by simpa using e),d c.2];constructor
   .rintro⟨y,a,h⟩;exact⟨y,ba _ a,h⟩
   .rintro⟨y,a,b,h⟩;rcases aL.mp a with h1|h1
    .exact absurd (by rwa[<-h1]) e
    .exact⟨y,h1,b,h⟩
def ji(s:ae)(R:List VV):List (VV×VV):=R.flatMap λv=>s.puzzle.doings.map λd=>(bZ s v d,v)
def YS{s R}{G:Z9}(m:(G.map λx=>x.1).Nodup)(h1:∀x∈G,∀v∈x.2,(x.1,v)∈ji s R)(n:∀e∈ji s R,∃x∈G,x.1=e.1/\e.2∈x.2):V0 s R (AM G):=by
 refine⟨λw v f=>?_,λv f a o=>?_⟩
 .obtain⟨x,g,rfl,h⟩:=(OB m).mp f;obtain⟨u,p,i⟩:=gS.mp (h1 x g v h);obtain⟨d,k,e⟩:=aF.mp i;injection e with c l
  subst l;refine⟨p,?_⟩;unfold bZ at c;cases b:cj s.puzzle d u with
  |none=>rw[b]at c;exact .inl c
  |some w=>rw[b]at c;obtain⟨j,q⟩:=jI k;refine .inr ⟨(j,w),?_,c⟩;refine dz.mpr ⟨(d,j),?_,by simp only;rw[b];rfl⟩;rwa[dJ]
 .obtain⟨d,k,e⟩:=dz.mp (show a∈(s.puzzle.doings.zipIdx).filterMap λd=>(cj s.puzzle d.1 v).map λw=>(d.2,w) from o);cases b:cj s.puzzle d.1 v with
  |none=>rw[b]at e;cases e
  |some w=>rw[b]at e;cases az e;have hm:(w,v)∈ji s R:=gS.mpr ⟨v,f,aF.mpr ⟨d.1,List.fst_mem_of_mem_zipIdx k,by unfold bZ;rw[b];rfl⟩⟩;obtain⟨x,g,c,l⟩:=n _ hm;exact (OB m).mpr ⟨x,g,c,l⟩
inductive a6e:Prop|mk s p U B R:A'=[.ref B.q,.lst (R.map eV)]->i_ s p U B B'->(∀v∈R,v∈U/\nB s v)->R.length<=200->(∀a (G:Z9),V0 s R (AM G)->Mv B B' a->bT s U B a->D' (.dic (SI G)) a)->a6e
def F0:dR (xN a2b) qP a6e:=by
 intro ds m Q h;obtain⟨s,p,U,B,R,rfl,c,hR,hlen,q⟩:=h;have hd20:=c.good.a1T;dsimp[xN,qP,dQ,cS,f_];intro C F
 let I1:LI3:=λi σ A=>∃(V H I:Option D) (G:Bg),σ=[Z_ (.ref B.q),Z_ (.lst (R.map eV)),Z_ (.ref C),V,H,I]/\T3 B C m A (ji s (R.take i)) G/\bT s U B A
 refine⟨I1,?_,λ_ _ _ _ _=>trivial,?_,?_⟩
 .exact⟨ZZ,ZZ,ZZ,[],rfl,⟨aS,F,by simp,by simp,by simp,by simp,by simp,by simp,by simp[ji],(oW.refl B m).new F⟩,c.ca.a2T c.ca F⟩
 .rintro i dd σ A f ⟨V,H,I,G,rfl,ok,W⟩;obtain⟨v,J,rfl⟩:=VG f;obtain⟨X,K⟩:=hR v (aJ J);have hil:=(ax.mp J).1;dsimp[];refine ow (c.keep ok.keep W) X K λm1 h1 h2=>?_;have Y:=ok.mv c.ca h1;have Z:∀j,(ji s (R.take i)++(s.puzzle.doings.take j).map λd=>(bZ s v d,v)).length<=5000:=λj=>by
   rw[aK,ah,eM];unfold ji;rw[DS];have:∀l:List VV,(l.map λv=>(s.puzzle.doings.map λd=>(bZ s v d,v)).length).sum<=20*l.length:=by
    intro l;induction l with
    |nil=>simp
    |cons u l ih=>simp only[aQ,yb,aZ,ah]at ih ⊢;lia
   have:=this (R.take i);rw[eM]at this;lia
  refine⟨λj σ E=>∃(H I:Option D) (G:Bg),σ=[Z_ (.ref B.q),Z_ (.lst (R.map eV)),Z_ (.ref C),Z_ (eV v),H,I]/\T3 B C m E (ji s (R.take i)++(s.puzzle.doings.take j).map λd=>(bZ s v d,v)) G/\bT s U B E,⟨_,_,G,rfl,by simpa using Y,h2⟩,λ_ _ _ _ _=>trivial,?_,?_⟩
  .rintro j dd σ E f ⟨H,I,G,rfl,b,n⟩;unfold ip at f;rw[aR]at f;cases hd:s.puzzle.doings[j]? with
   |none=>rw[hd]at f;cases f
   |some d=>
    rw[hd]at f;cases az f;obtain⟨xx,exx⟩:=C4 s v d;have hp5:=Z j;have hes:(ji s (R.take i)++(s.puzzle.doings.take (j+1)).map λd=>(bZ s v d,v))=(ji s (R.take i)++(s.puzzle.doings.take j).map λd=>(bZ s v d,v))++[(bZ s v d,v)]:=by rw[eW hd,bU,List.map_singleton,<-dw]
    simp only[hes];generalize (ji s (R.take i)++(s.puzzle.doings.take j).map λd=>(bZ s v d,v))=ps at b hp5 ⊢;rw[exx];dsimp[b.grp,gg];intro t k;have g:m t=ZZ:=by
     cases hm:m t with
     |none=>rfl
     |some o=>have nn:=n.noN k;have:=b.keep t o hm nn.1 nn.2;rw[k]at this;cases this
    have L:t≠C:=by intro e;subst e;rw[b.grp]at k;cases k
    have M:(bQ E t (.lst [])) C=Z_ (.dic (vQ G)):=by rw[ao (aG L)];exact b.grp
    have hlG:(vQ G).length<1000000:=by unfold vQ;rw[ah];have:=b.len;lia
    simp only[M,hlG,if_true];by_cases w:∃x∈G,x.1=bZ s v d
    .obtain⟨x,z,hxn⟩:=w;rw[<-hxn];obtain⟨N,k2,k3⟩:=b.each x z;have npx:x.2.2≠t:=by intro e;rw[e,k]at N;cases N
     have hxa:(bQ E t (.lst [])) x.2.2=Z_ (.lst (x.2.1.map eV)):=by rwa[ao npx]
     have hls:(x.2.1.map eV).length<1000000:=by rw[ah];have:=b.a3J x z;lia
     dsimp[a0m z b.keys,hxa,hls];have okp:T3 B C m (bQ E t (.lst [])) ps G:=by refine⟨M,b.a1Y,λy O=>?_,b.nd,b.keys,b.len,b.a3J,b.has,b.all,b.keep.new g⟩;obtain⟨y1,y2,y3⟩:=b.each y O;exact⟨by rwa[ao λe=>by rw[e,k]at y1;cases y1],y2,y3⟩
     exact⟨_,_,OA x.1 v G,rfl,okp.more z,(n.a2T c.ca g).a2T c.ca k3⟩
    .have w:∀x∈G,x.1≠bZ s v d:=λx z e=>w ⟨x,z,e⟩;have P:=YR w;have S:(bQ (bQ E t (.lst [])) C (.dic (vQ G++[(kV (bZ s v d),.ref t)]))) t=Z_ (.lst []):=by rw[ao L,aS]
     have h0:(0:Nat)<1000000:=by decide
     dsimp[P,ou P,S,h0];exact⟨_,_,_,rfl,b.first w k g,((n.a2T c.ca g).a2T c.ca b.a1Y).a2T c.ca g⟩
  .rintro σ E ⟨H,I,G,rfl,b,n⟩;refine⟨_,_,_,G,rfl,?_,n⟩;unfold ip at b;rw[ah,cO]at b;have e:ji s (R.take (i+1))=ji s (R.take i)++s.puzzle.doings.map λd=>(bZ s v d,v):=by
    unfold ji;rw[eW J,fG];simp
   rwa[e]
 .rintro σ A ⟨V,H,I,G,rfl,ok,W⟩;rw[ah,cO]at ok;dsimp[];have T:∀a,m a=ZZ->base B m A a=ZZ:=λa ha=>by
   unfold base;have:=c.ca.noN ha;rwa[i0n (by simp[this.1,this.2])]
  refine A7.nest (m0:=base B m A) (G.map λx=>(kV x.1,x.2.2,.lst (x.2.1.map eV),.lst (x.2.1.map eV))) [] A ?_ (λr hr=>?_) ?_ (T _ ok.a1Y) (oW.base ok.keep) ?_
  .rw[ok.grp];simp[vQ,df]
  .obtain⟨x,z,rfl⟩:=aF.mp hr;obtain⟨N,k2,k3⟩:=ok.each x z;exact⟨N,.lst _,k2,T _ k3⟩
  .rw[bq];exact ok.nd
  .have:=q (base B m A) (G.map λx=>(x.1,x.2.1)) (YS (by rw[bq];exact ok.keys) (λx z v J=>?_) λe he=>?_) (wY B m A) (wZ W)
   .unfold SI at this;rw[bq]at this;rwa[oP,bq]
   .obtain⟨y,O,rfl⟩:=aF.mp z;exact ok.has y O v J
   .obtain⟨y,O,e1,e2⟩:=ok.all e he;exact⟨(y.1,y.2.1),aF.mpr ⟨y,O,rfl⟩,e1,e2⟩
def mr(E:EE):List (K2×D):=E.map λe=>(kV e.1,D.int (e.2:Int))
def Ar{E v}:eF (mr E) (kV v)=(iD E v).map λ(n:Nat)=>D.int (n:Int):=by
 unfold iD;induction E with
 |nil=>rfl
 |cons x E a=>
  unfold mr;rw[aQ,mP];by_cases e:x.1=v
  .rw[i0p (by rw[e]),eI (by simpa using e)];rfl
  .rwa[i0n λh=>e (s_ h),d6 (by simpa using e)]
def OC{E:EE}{v}:(eF (mr E) (kV v)).isSome=(E.map λe=>e.1).contains v:=by
 rw[Ar,jv];cases a:iD E v with
 |none=>have:=J6.mp a;simp at this ⊢;exact this
 |some k=>
  have:¬v∉E.map λe=>e.1:=λh=>by rw[J6.mpr h]at a;cases a
  simp at this ⊢;exact this
def Vd{E:EE}{v}{d:Nat}(h:(E.map λe=>e.1).contains v=ZX):yf (mr E) (kV v) (.int (d:Int))=mr (AL d E v):=by
 have a:eF (mr E) (kV v)=ZZ:=by
  cases a:eF (mr E) (kV v) with
  |none=>rfl
  |some x=>have:=OC (E:=E) (v:=v);rw[a,h]at this;cases this
 rw[ou a];unfold AL;rw[i0n (by rw[h];exact aB)];simp[mr]
def LB:∀(l:List VV) (a:List (K2×D)),l.Nodup->(∀v∈l,kV v∉a.map λx=>x.1)->Eb a (l.map λv=>(kV v,D.int 0))=a++l.map λv=>(kV v,D.int 0)
 |[],a,_,_=>by simp[Eb]
 |v::l,a,b,d=>by
  rw[bX]at b;have c:eF a (kV v)=ZZ:=by
   cases c:eF a (kV v) with
   |none=>rfl
   |some x=>exact absurd (aF.mpr ⟨_,lJ c,rfl⟩) (d v (by simp))
  have e:Eb a ((v::l).map λv=>(kV v,D.int 0))=Eb (yf a (kV v) (.int 0)) (l.map λv=>(kV v,D.int 0)):=rfl;rw[e,ou c,LB l _ b.2 λw hw=>?_]
  .simp
  .rw[bU];intro hm;rcases aX.mp hm with h|h
   .exact d w (by simp[hw]) h
   .have:kV w=kV v:=by simpa using h
    exact b.1 (by rwa[<-s_ this])
def Jd:∀l:List VV,qj (l.map λv=>D.tup [eV v,.int 0])=Z_ (l.map λv=>(kV v,D.int 0))
 |[]=>rfl
 |v::l=>by rw[aQ,aQ,qj,Jd l];simp only[Mb,gg,dZ]
def C6(E:EE):List D:=E.map λe=>eV e.1
inductive a6a:Prop|mk s p U B R:A'=[.ref B.q,.lst (R.map eV)]->i_ s p U B B'->(∀v∈R,v∈U/\nB s v)->R.length<=200->R.Nodup->(∀a (E:EE),C3 s R E E.length->Mv B B' a->bT s U B a->D' (.dic (mr E)) a)->a6a
def F5{α:Type}(p:α->Bool)(f:α->D):∀l:List α,l.filterMap (λx=>if p x=ZY then Z_ (f x) else ZZ)=(l.filter p).map f
 |[]=>rfl
 |x::l=>by
  rw[dD,iU];cases h:p x with
  |true=>simp[F5 p f l]
  |false=>simp[F5 p f l]
def AN:dR (sL a6e a5q) mW a6a:=by
 intro ds m Q h;obtain⟨s,p,U,B,R,rfl,c,hR,hlen,M,q⟩:=h;dsimp[sL,mW];refine⟨s,p,U,B,R,rfl,c,hR,hlen,λm0 G pre u f=>?_⟩;have c0:i_ s p U B m0:=c.mv u f;have q:∀a (E:EE),C3 s R E E.length->Mv B m0 a->bT s U B a->Q (.dic (mr E)) a:=λa E h1 h2 h3=>q a E h1 (u.trans h2) h3;clear u;dsimp[Kz,cS,f_,kS];intro g K;refine QZ R eV (λv=>if uT s v=ZY then Z_ (eV v) else ZZ) rfl (λa=>∃b,a=bQ m0 g (.lst b)) ⟨_,rfl⟩ (λa b ⟨x,e⟩=>⟨b,by rw[e,cy]⟩) (λ_ _=>trivial) (λv N a b O hm X Y hX hY=>?_) λa ⟨x,e⟩ hm=>?_
 .have P:eP s p B a:=by
   obtain⟨x,e⟩:=O;rw[e];exact c0.pl.sub (Cj.new K)
  dsimp[aW _ P.q,iH];refine⟨s,B.A,v,rfl,P.puz,by rw[(hR v N).2.len];exact c.good.goal,?_⟩;have ew:(s.puzzle.goal.all (jD v))=uT s v:=rfl;dsimp[ew];refine dY (λhw=>?_) λhw=>?_
  .exact hX _ a (i0p hw) O hm
  .exact hY a (i0n (by rw[hw];exact aB)) O hm
 .rw[F5]at hm;have e:a=bQ m0 g (.lst ((R.filter (uT s)).map eV)):=by
   subst e;rw[aS]at hm;cases hm;rfl
  subst e;clear hm;have n1:=c0.ca.noN K;dsimp[ku,cS,f_,aS,kS];intro Z S;have T:Z≠g:=λe=>by rw[e,aS]at S;cases S
  have f3':m0 Z=ZZ:=by rw[ao T]at S;exact S
  refine QZ (R.filter (uT s)) eV (λv=>Z_ (.tup [eV v,.int 0])) rfl (λa=>∃b,a=bQ (bQ m0 g (.lst ((R.filter (uT s)).map eV))) Z (.lst b)) ⟨_,rfl⟩ (λa b ⟨x,e⟩=>⟨b,by rw[e,cy]⟩) (λa ⟨x,e⟩=>by subst e;show (bQ (bQ m0 g _) Z _) g=_;rw[ao (aG T),aS]) (λv N a b O hm X Y hX hY=>?_) λa ⟨x,e⟩ hm=>?_
  .dsimp[ib];exact hX _ a rfl O hm
  .subst e;have e2:(R.filter (uT s)).filterMap (λv=>Z_ (D.tup [eV v,.int 0]))=(R.filter (uT s)).map λv=>D.tup [eV v,.int 0]:=rh λ_ _=>rfl;rw[e2];dsimp[ia S,Jd];intro w o;have r:g≠w:=λe=>by rw[<-e,aS]at o;cases o
   have o:m0 w=ZZ:=by rw[ao (aG r)]at o;exact o
   rw[LB _ [] (M.filter _) (by simp),oP];have n2:=c0.ca.noN o;generalize C:((R.filter (uT s)).map λv=>((v,0):VV×Nat))=E0;have b0:C3 s R E0 0:=by rw[<-C];exact C3.first M
   have er:(R.filter (uT s)).map eV=C6 E0:=by rw[<-C];unfold C6;rw[bq];rfl
   have ed:((R.filter (uT s)).map λv=>(kV v,D.int 0))=mr E0:=by rw[<-C];unfold mr;rw[bq];rfl
   rw[er,ed]
   let I1:LI3:=λn σ a=>∃(i:Nat) (E:EE) (x6 x7 L:Option D),n=201-i/\i<=E.length/\σ=[Z_ (.ref B.q),Z_ (.lst (R.map eV)),Z_ (.dic (SI G)),Z_ (.ref g),Z_ (.ref w),Z_ (.int (i:Int)),x6,x7,L]/\C3 s R E i/\bT s U B a/\SG B g w m0 a (.lst (C6 E)) (.dic (mr E))
   refine⟨I1,
    ⟨201,0,E0,ZZ,ZZ,ZZ,rfl,gj _,rfl,b0,(f.a2T f K).a2T f o,⟨K,o,r,by rw[ao r,aS],aS,((oW.refl B m0).new K).new o⟩⟩,?_⟩
   rintro n σ a ⟨i,E,x6,x7,L,rfl,hiE,rfl,H,ca,I⟩;have hEl:=V1 H;have hrl:(C6 E).length=E.length:=by unfold C6;simp
   dsimp[f7 I.oa,hrl];refine dY (λk=>?_) λk=>?_
   .have k:i<E.length:=by simp at k;lia
    obtain⟨x,hx⟩:∃x,E[i]?=Z_ x:=⟨_,aj k⟩
    have hat:tL (C6 E) (i:Int)=Z_ (eV x.1):=d9 (by unfold C6;rw[aR,hx];rfl);have V:eK a (.ref g)=ZZ:=jf I.oa;have hlk:eF (mr E) (kV x.1)=Z_ (.int (x.2:Int)):=by rw[Ar,(pI H.nd).mpr (aJ hx)];rfl
    have hxi:((x.2:Int)+1)=((x.2+1:Nat):Int):=by lia
    dsimp[V,fU I.oa,hat,iM I.ob,gg,hlk,WD,dQ,cS,f_,hxi];refine⟨λj σ W=>∃(L:Option D),σ=[Z_ (.ref B.q),Z_ (.lst (R.map eV)),Z_ (.dic (SI G)),Z_ (.ref g),Z_ (.ref w),Z_ (.int (i:Int)),Z_ (.int ((x.2+1:Nat):Int)),Z_ (.lst ((AM G x.1).map eV)),L]/\bT s U B W/\SG B g w m0 W (.lst (C6 (xT (x.2+1) E ((AM G x.1).take j)))) (.dic (mr (xT (x.2+1) E ((AM G x.1).take j)))),
     ⟨_,rfl,ca,I⟩,λ_ _ _ _ _=>trivial,?_,?_⟩
    .rintro j dd σ W hdd ⟨L,rfl,t,d⟩;obtain⟨y,hd,rfl⟩:=VG hdd;have hes:xT (x.2+1) E ((AM G x.1).take (j+1))=AL (x.2+1) (xT (x.2+1) E ((AM G x.1).take j)) y:=by
      rw[eW hd];unfold xT;rw[gD];rfl
     have hle:(xT (x.2+1) E ((AM G x.1).take j)).length<=200:=by
      obtain⟨l,a1',a2',a3',a4'⟩:=t9 (x.2+1) ((AM G x.1).take j) E H.nd;rw[a1'];have:=Rc a3' λz hz=>by
       obtain⟨e,he,rfl⟩:=aF.mp hz;rcases aX.mp he with h|h
       .exact H.inR e h
       .exact (pre.inR x.1 e.1 (rT (a2' e h).2.1)).1
      rw[ah]at this;lia
     simp only[hes];generalize xT (x.2+1) E ((AM G x.1).take j)=F at d hle ⊢;have hl1:(mr F).length<16000000:=by unfold mr;rw[ah];lia
     have hl2:(C6 F).length<1000000:=by unfold C6;rw[ah];lia
     dsimp[gg,iM d.ob,OC];refine dY (λJ=>?_) λJ=>?_
     .have J:(F.map λe=>e.1).contains y=ZX:=PB J;have hb2:(bQ W w (.dic (mr (AL (x.2+1) F y)))) g=Z_ (.lst (C6 F)):=by rw[ao r];exact d.oa
      dsimp[gg,d.ob,hl1,Vd J,hb2,hl2];refine⟨_,rfl,(t.a2T f o).a2T f K,?_⟩;have:=(d.setB (.dic (mr (AL (x.2+1) F y)))).a5k (.lst (C6 F++[eV y]));have e:C6 (AL (x.2+1) F y)=C6 F++[eV y]:=by unfold AL;rw[i0n (by rw[J];exact aB)];unfold C6;simp
      rwa[e]
     .have J:(F.map λe=>e.1).contains y=ZY:=by cases h:(F.map λe=>e.1).contains y<;>simp_all
      have e:AL (x.2+1) F y=F:=by unfold AL;rw[i0p J]
      rw[e];exact⟨_,rfl,t,d⟩
    .rintro σ W ⟨L,rfl,t,d⟩;rw[ah,cO]at d;dsimp[];have bs:=H.step pre hx;have hln:=(t9 (x.2+1) (AM G x.1) E H.nd)
     obtain⟨l,al,_⟩:=hln;refine⟨201-(i+1),by lia,i+1,_,_,_,_,rfl,?_,by simp;exact⟨rfl,rfl,rfl⟩,bs,t,d⟩;rw[al,aK];lia
   .have k:E.length<=i:=by simp at k;lia
    have:i=E.length:=by lia
    subst this;have q:=q (base B m0 a) E H (wY B m0 a) (wZ ca);refine A7.nest (m0:=base B m0 a) [] (mr E) a (by rw[I.ob];simp) (by simp) (by simp) ?_ (oW.base I.keep) (by simpa using q);unfold base;rwa[i0n (by simp[n2.1,n2.2])]
def SJ(s:ae)(v:VV)(a:(ir s v).over=ZX):J5 s (ir s v) (cn (ir s v)).length:=by
 have:∀(f i:Nat) (g:t8),J5 s g i->f+i=201->(Gu s f i g).over=ZX->J5 s (Gu s f i g) (cn (Gu s f i g)).length:=by
  intro f;induction f with
  |zero=>intro i g h c _;have:=h.le;have:=h.len;lia
  |succ f d=>
   intro i g h c a;by_cases e:i<(cn g).length
   .obtain⟨x,b⟩:∃x,(cn g)[i]?=Z_ x:=⟨_,aj e⟩
    rw[Aq b]at a ⊢;obtain⟨j,k⟩:=h.step b;by_cases l:(Ds s (cn g) x).length<=200
    .exact d (i+1) _ (j l).1 (by lia) a
    .have:=EX (s:=s) f (i+1) _ (k (by lia));rw[this]at a;cases a
   .rw[Dt (by lia)]at a ⊢;have:i=(cn g).length:=by have:=h.le;lia
    rwa[<-this]
 exact this 201 0 _ (Xa s v) rfl a
def OD(s:ae)(v:VV):(cn (ir s v))[0]?=Z_ v:=by obtain⟨l,e⟩:=EY (s:=s) 201 0 {nodes:=[{state:=v,from_:=0,act:=0}]};have e:cn (ir s v)=[v]++l:=e;rw[e];rfl
def SK{s v}(g:mq s)(n:nB s v)(ho:(ir s v).over=ZX):∀w∈cn (ir s v),nB s w:=by
 have:∀(f i:Nat) (m:t8),(∀w∈cn m,nB s w)->∀w∈cn (Gu s f i m),nB s w:=by
  intro f;induction f with
  |zero=>intro i m h;exact h
  |succ f o=>
   intro i m h;by_cases p:i<(cn m).length
   .obtain⟨x,l⟩:∃x,(cn m)[i]?=Z_ x:=⟨_,aj p⟩
    rw[Aq l];refine o (i+1) _ ?_;have e:=h x (aJ l);have:∀(c:List (Nat×VV)) (y:t8×List (Nat×Nat)),(∀a∈c,nB s a.2)->(∀w∈cn y.1,nB s w)->∀w∈cn (c.foldl (c_ (a9 s) 200 i) y).1,nB s w:=by
     intro c;induction c with
     |nil=>intro y _ h;exact h
     |cons a c j=>
      intro y d k;refine j _ (λb q=>d b (by simp[q])) ?_;unfold c_;split
      .exact k
      .split
       .intro w hw;have hw:w∈cn y.1++[a.2]:=by simpa[cn] using hw
        rcases aX.mp hw with h1|h1
        .exact k w h1
        .rw[bb]at h1;subst h1;exact d a (by simp)
       .exact k
    exact this (qv s x) (m,[]) (λa d=>V9 g e d) h
   .rwa[Dt (by lia)]
 exact this 201 0 _ λw hw=>by
  have:w=v:=by simpa[cn] using hw
  rwa[this]
def Je{α:Type}{l:List α}{p}{n:Nat}(h:∀i x,l[i]?=Z_ x->p (x,i)=ZX):(l.zipIdx).find? p=ZZ:=by rw[kZ];intro x a;rw[dJ]at a;rw[h x.2 x.1 a];exact aB
def Rg{α:Type}{p}:∀(l:List α) (k j:Nat) (x:α),l[j]?=Z_ x->p (x,k+j)=ZY->(∀i y,i<j->l[i]?=Z_ y->p (y,k+i)=ZX)->(l.zipIdx k).find? p=Z_ (x,k+j)
 |[],k,j,x,h,_,_=>by simp at h
 |y::l,k,0,x,h,a,_=>by
  have e:y=x:=by simpa using h
  subst e;rw[g9,eI (show p (y,k)=ZY from a)];rfl
 |y::l,k,j+1,x,h,a,b=>by
  rw[g9,d6 (by rw[show (y,k)=(y,k+0) from rfl,b 0 y (by lia) rfl];exact aB)];have e:k+(j+1)=k+1+j:=by lia
  rw[e]at a ⊢;exact Rg l (k+1) j x (by simpa using h) a λi z hi c=>by have:=b (i+1) z (by lia) (by simpa using c);rw[<-this];congr 2;lia
def Rh{l}{i:Nat}{d}(h:(yF l)[i]?=Z_ d):∃y,l[i]?=Z_ y/\d=.tup [.int (i:Int),y]:=by have a:=(ax.mp h).1;rw[iG]at a;have:=vh (aj a);rw[h]at this;exact⟨_,aj a,az this⟩
inductive a6d:Prop|mk s p U B:A'=[.ref B.q]->i_ s p U B B'->nB s p.now->(∀v∈cn (ir s p.now),v∈U)->(∀a,Mv B B' a->bT s U B a->D' (if (ir s p.now).over=ZY then .non else .tup (dI (tj s p.now))) a)->a6d
def OE:dR (Ij a6c a6a a2b) BN a6d:=by
 intro ds m Q h;obtain⟨s,p,U,B,rfl,c,F,G,q⟩:=h;dsimp[Ij,BN];refine⟨s,p,U,B,rfl,c,F,G,λZ b r=>?_⟩;have c1:i_ s p U B Z:=c.mv b r;cases A:(ir s p.now).over with
 |true=>rw[A]at q;dsimp[rZ];exact .ret (q Z b r)
 |false=>
  rw[A]at q;have H:=SJ s p.now A;have I:=SK c.good F A;have h0:=OD s p.now;dsimp[rZ]at q ⊢;refine⟨s,p,U,B,cn (ir s p.now),rfl,c1,λv hm=>⟨G v hm,I v hm⟩,H.len,H.nd,λm2 E bi f t=>?_⟩;have J:i_ s p U B m2:=c1.mv f t;have ha:=SC rfl H rfl h0 bi;rw[ha]at q;have u:p.now∈U:=G _ (aJ h0);dsimp[aW _ J.pl.q,nr,Il,gg,Ar,jv];cases hl:iD E p.now with
  |none=>rw[hl]at q;dsimp[];exact .ret (q m2 (b.trans f) t)
  |some k=>
   rw[hl]at q;dsimp[dZ,dQ,r_,aW _ J.pl.q,nr];refine ow J u F λm3 K L=>?_;have q:=q m3 ((b.trans f).trans K) L;dsimp[r8,B2,f_];have x:∀w,(Option.map (λ(n:Nat)=>D.int (n:Int)) (iD E w)).getD .non=fX (iD E w):=λw=>by cases iD E w<;>rfl
   let I1:LI3:=λj σ M=>∃(N O:Option D),σ=[Z_ (.ref B.q),Z_ (.lst ((cn (ir s p.now)).map eV)),Z_ (.dic (mr E)),Z_ (.int (k:Int)),N,O]/\M=m3/\∀i d,i<j->s.puzzle.doings[i]?=Z_ d->((iD E (bZ s p.now d)).map λ(n:Nat)=>(n:Int))≠Z_ ((k:Int)-1)
   refine⟨I1,
    ⟨ZZ,ZZ,rfl,rfl,λi d C=>by lia⟩,λ_ _ _ _ _=>trivial,?_,?_⟩
   .rintro j dd σ M P ⟨N,O,rfl,rfl,l⟩;obtain⟨y,g,ey⟩:=Rh P;unfold ip at g;obtain⟨d,R,rfl⟩:=VG g;obtain⟨xx,S⟩:=C4 s p.now d;rw[ey,S];dsimp[lT,Il,gg,Ar,x];cases hw:iD E (bZ s p.now d) with
    |none=>
     dsimp[fX];refine⟨_,_,rfl,rfl,λi T C a=>?_⟩;rcases AY i j with h|h
     .exact l i T h a
     .have:i=j:=by lia
      subst this;rw[R]at a;cases a;rw[hw];simp
    |some n=>
     dsimp[fX];refine dY (λo=>?_) λo=>?_
     .have o:(n:Int)=(k:Int)-1:=by simpa using o
      obtain⟨V,rfl⟩:∃V,k=V+1:=⟨k-1,by lia⟩
      have hn:n=V:=by lia
      subst hn;have W:(s.puzzle.doings.zipIdx).find? (λd=>iD E (bZ s p.now d.1)==Z_ n)=Z_ (d,j):=by
       have:=Rg (p:=λd:dU×Nat=>iD E (bZ s p.now d.1)==Z_ n) s.puzzle.doings 0 j d R (by simp[hw]) λi y C g=>by
        have:=l i y C g;simp only;cases X:iD E (bZ s p.now y) with
        |none=>rfl
        |some z=>rw[X]at this;simp only[dZ,ne_eq,iY]at this;simp;lia
       rw[n9]at this;exact this
      simp only[W]at q;refine .ret ?_;have e:(((n+1:Nat):Int))=(n:Int)+1:=by lia
      rwa[e]
     .have o:¬((n:Int)=(k:Int)-1):=by simpa using o
      refine⟨_,_,rfl,rfl,λi T C a=>?_⟩;rcases AY i j with h|h
      .exact l i T h a
      .have:i=j:=by lia
       subst this;rw[R]at a;cases a;rw[hw];simpa using o
   .rintro σ M ⟨N,O,rfl,rfl,l⟩;have Y:(yF (ip s p.now)).length=s.puzzle.doings.length:=by rw[iG];unfold ip;simp
    rw[Y]at l;dsimp[];refine .ret ?_;cases k with
    |zero=>exact q
    |succ k=>
     have W:(s.puzzle.doings.zipIdx).find? (λd=>iD E (bZ s p.now d.1)==Z_ k)=ZZ:=by
      refine Je (n:=0) λi y g=>?_;have:=l i y (ax.mp g).1 g;simp only;cases X:iD E (bZ s p.now y) with
      |none=>rfl
      |some z=>rw[X]at this;simp only[dZ,ne_eq,iY]at this;simp;lia
     simp only[W]at q;have e:(((k+1:Nat):Int))=(k:Int)+1:=by lia
     rwa[e]
inductive mL:Prop|mk s p U B x:A'=[.ref B.q,x]->i_ s p U B B'->nB s p.now->(∀v∈cn (ir s p.now),v∈U)->(∀a,Mv B B' a->bT s U B a->D' (.lst (dI (tj s p.now))) a)->mL
def Gv:dR (zu a6d) sS mL:=by
 intro ds m Q h;obtain⟨s,p,U,B,x,rfl,c,d,f,q⟩:=h;dsimp[zu,sS];refine⟨s,p,U,B,rfl,c,d,f,λg a b=>?_⟩;have q:=q g a b;cases i:(ir s p.now).over with
 |true=>
  have e:tj s p.now=[-6]:=by unfold tj;simp only[i,if_true]
  rw[e]at q;dsimp[rZ];exact .ret q
 |false=>dsimp[rZ];exact .ret q
def SL(s:ae)(i:Nat)(c:List (List Nat)):∀o∈bE (a9 s) (ay s) c i,∀t∈o.2,∃v∈c,o.1=bH (a9 s) (ay s) i v/\t=(bN (a9 s) i v).2:=by
 have g:∀(r b:List (List Nat)) (l:Mr),(∀o∈l,∀t∈o.2,∃v∈b,o.1=bH (a9 s) (ay s) i v/\t=(bN (a9 s) i v).2) ->
   ∀o∈r.foldl (eZ (a9 s) (ay s) i) l,∀t∈o.2,∃v∈b++r,o.1=bH (a9 s) (ay s) i v/\t=(bN (a9 s) i v).2:=by
  intro r;induction r with
  |nil=>intro b l h;rwa[e9]
  |cons v r k=>
   intro b l h;rw[d5];have:=k (b++[v]) (eZ (a9 s) (ay s) i l v) ?_
   .rw[dw]at this;exact this
   .intro o f t a;unfold eZ at f;simp only at f;split at f
    .obtain⟨x,j,rfl⟩:=aF.mp f;by_cases e:x.1=bH (a9 s) (ay s) i v
     .rw[i0p e]at a ⊢;simp only at a ⊢;unfold gN at a;split at a
      .obtain⟨u,d,h1⟩:=h x j t a;exact⟨u,b9 _ d,h1⟩
      .rcases aX.mp a with h2|h2
       .obtain⟨u,d,h1⟩:=h x j t h2;exact⟨u,b9 _ d,h1⟩
       .rw[bb]at h2;exact⟨v,by simp,e,h2⟩
     .rw[i0n e]at a ⊢;obtain⟨u,d,h1⟩:=h x j t a;exact⟨u,b9 _ d,h1⟩
    .rcases aX.mp f with h1|h1
     .obtain⟨u,d,h2⟩:=h o h1 t a;exact⟨u,b9 _ d,h2⟩
     .rw[bb]at h1;subst h1;have:t=(bN (a9 s) i v).2:=by simpa using a
      exact⟨v,by simp,rfl,this⟩
 have:=g c [] [] (by simp);rw[oP]at this;exact this
nonrec def Qc{s}{i:Nat}{x y}(h:∀v∈x,v∈y):∀z∈iX (bE (a9 s) (ay s) x i),∃q∈iX (bE (a9 s) (ay s) y i),∀v∈z,v∈q:=by
 have l:=oz s i x;have g:=oz s i y;have m:=SL s i x;generalize bE (a9 s) (ay s) x i=lx at l m;generalize bE (a9 s) (ay s) y i=ly at g;have n:∀o∈lx,∃b∈ly,b.1=o.1/\∀t∈o.2,t∈b.2:=by intro o d;obtain⟨v,r,e⟩:=l.head o d;obtain⟨b,a,p,_⟩:=g.all v (h v r);refine⟨b,a,by rw[p,e],λt w=>?_⟩;obtain⟨u,A,B,C⟩:=m o d t w;obtain⟨D,k,E,F⟩:=g.all u (h u A);have:D=b:=uc (f:=λo:List Nat×List (List Nat)=>o.1) g.keys a k (by rw[E,<-B,e,p]);rwa[<-this,C]
 intro z j;unfold iX at j ⊢;split at j
 .rename_i c;obtain⟨o,d,rfl⟩:=aF.mp j;rw[i0p]
  .obtain⟨b,a,_,G⟩:=n o d;exact⟨b.2,aF.mpr ⟨b,a,rfl⟩,G⟩
  .rw[cx]at c ⊢;obtain⟨o,d,h1⟩:=c;obtain⟨b,a,e,_⟩:=n o d;exact⟨b,a,by rw[e];exact h1⟩
 .cases j
def Jf{s}{room:Nat}{g:Sg}(e:IZ s g g.nodes.length):∀(f at_:Nat) (g':Sg),(∀x∈g'.nodes,ES g x)->∀x∈(cC (a9 s) (ay s) room f at_ g').nodes,ES g x
 |0,_,_,h=>h
 |f+1,at_,g',h=>by
  cases c:g'.nodes[at_]? with
  |none=>rwa[hZ c]
  |some b=>
   rw[gI c];refine Jf e f (at_+1) (vL s room b g') λx a=>?_;rcases (lp (s:=s) (room:=room) (b:=b) (x:=x) (g:=g') s.puzzle.doings.length).2.1 a with a|⟨i,l,a⟩
   .exact h x a
   .obtain⟨y,m,n⟩:=h b (aJ c);obtain⟨o,d,p⟩:=Qc n x a;obtain⟨k,j⟩:=jI m;obtain⟨w,hw,q⟩:=e k y (ax.mp j).1 j i l o d;exact⟨w,hw,λv r=>q v (p v r)⟩
def rj.kept{s U room b f}(e:rj s U room b)(g:(bC s room b).over=ZX):rj s U room (d7 f b):=by
 have a:∀v∈d7 f b,v∈b:=λv c=>(du.mp c).1;refine⟨⟨e.bok.1.filter _,λv c=>e.bok.2.1 v (a v c),c6 (fS _ _) e.bok.2.2⟩,λv c=>e.vok v (a v c),e.r1,e.r2,λx d v c=>?_⟩;have h:=zS (s:=s) (room:=room) (room+1) 0 {nodes:=[b]} (λx d=>by
  have:x=b:=by simpa using d
  rw[this];exact e.bok.1) (λk _ hk=>by lia) (gj _) (by simpa using e.r1) rfl g
 obtain⟨y,i,j⟩:=Jf (room:=room) h (room+1) 0 {nodes:=[d7 f b]} (λx d=>by
  have:x=d7 f b:=by simpa using d
  rw[this];exact⟨b,mG _ _ _ (by simp),a⟩) x d
 exact e.inU y i v (j v c)
def Ve:Option dM->D
 |none=>.non
 |some x=>.tup [.int (x.fact:Int),.int (x.left:Int),.int (x.price:Int),.int (x.level:Int)]
abbrev MR(s:ae)(p:bM)(room:Nat):List dM:=Vberaf.leads (a9 s) (ay s) room (s.facts.map bB) p.belief p.now p.purse
inductive a5X:Prop|mk s p U B room:A'=[.ref B.q,.int ((room:Nat):Int)]->i_ s p U B B'->Bo s p->(∀f∈s.facts,rj s U room (d7 (bB f) p.belief))->(∀a,Mv B B' a->bT s U B a->D' (Ve (jY (MR s p room))) a)->a5X
def LC(F:Fa)(n:Nat):F.told (n+1)=F.told n++if F.tell n=ZY then [n] else []:=by
 unfold Fa.told;rw[AX,List.filter_append]
 congr 1
 cases h:F.tell n<;>simp[h]
def Gw:dR (zm a4u a4t a6i) sJ a5X:=by
 intro ds m Q h;obtain⟨s,p,U,B,room,rfl,c,o,P,q⟩:=h;have hfl:=c.good.a2i;rw[show MR s p room=_ from V8 s p room]at q;generalize hF:JZ s p room=F at q;have Ft:∀{n f},s.facts[n]?=Z_ f->F.tell n=decide (cZ (bB f) p.belief p.now p.purse=0)/\F.left n=(d7 (bB f) p.belief).length/\F.price n=f.price/\F.lev n=nE (a9 s) (ay s) room (d7 (bB f) p.belief):=λ{n f} h=>by rw[<-hF];refine⟨?_,?_,?_,?_⟩<;>simp only[JZ,h,Option.elim_some]
 dsimp[zm,sJ];intro H j;have nt:=c.ca.noN j;have b:∀I,eP s p B (bQ m H (.lst I)):=λI=>c.pl.sub (Cj.new j);dsimp[dQ,r_,cS,aW _ (b []).q,iH,aW _ (b []).puz.z,qm];simp only[r8,if_true,f_,(b []).puz.facts]
 let I1:LI3:=λi σ d=>∃(r t u v w:Option D),σ=[Z_ (.ref B.q),Z_ (.int (room:Int)),Z_ (.ref H),r,t,u,v,w]/\d=bQ m H (.lst ((F.told i).map λn=>Ea (F.key n)))
 refine⟨I1,
  ⟨_,_,_,_,_,rfl,by unfold Fa.told;rfl⟩,λi σ d _ ⟨_,_,_,_,_,_,e⟩=>by rw[e];exact (b _).puz.facts,?_,?_⟩
 .rintro i dd σ d x ⟨r,t,u,v,w,rfl,rfl⟩;obtain⟨y,hy,rfl⟩:=Rh x;obtain⟨f,l,rfl⟩:=VG hy;obtain⟨Z,F2,F3,F4⟩:=Ft l;have hil:=(ax.mp l).1;have J:=b ((F.told i).map λn=>Ea (F.key n));have R:(F.told i).length<1000000:=by
   have:(F.told i).length<=i:=by unfold Fa.told;exact c6 (fS _ _) (by simp)
   lia
  dsimp[];refine EB c.good J l o ?_;have S:F.tell i=decide ((cZ (bB f) p.belief p.now p.purse:Int)=0):=by rw[Z];congr 1;simp
  dsimp[<-S];refine dY (λT=>?_) λT=>?_
  .refine oA c.good J l o.bel ?_;dsimp[rP,D6,ah,gF,R];refine⟨_,_,_,_,_,rfl,?_⟩;rw[LC,i0p T,bU,cy]
   congr 3
   unfold Ea Fa.key;simp only[aQ,Av];rw[F2,F3]
  .refine⟨_,_,_,_,_,rfl,?_⟩;rw[LC,i0n (by rw[T];exact aB),e9]
 .rintro σ d ⟨r,t,u,v,w,rfl,rfl⟩;rw[iG,ah];have htl:(F.told s.facts.length).length<=s.facts.length:=by unfold Fa.told;exact c6 (fS _ _) (by simp)
  dsimp[dQ,cS,f_];refine⟨(F.told s.facts.length).map F.key,by rw[bq];rfl,.inl λns V=>?_,λW a A=>?_⟩
  .obtain⟨n,_,rfl⟩:=aF.mp V;unfold Fa.key;simp
  .have C:oW B m (bQ m H (.lst ((F.told s.facts.length).map λn=>Ea (F.key n)))):=(oW.refl B m).new j
   let I2:LI3:=λi σ d=>∃(r t u v w:Option D),σ=[Z_ (.ref B.q),Z_ (.int (room:Int)),Z_ (.ref H),r,t,u,v,w]/\oW B m d/\bT s U B d/\∀k<i,∀n,W[k]?=Z_ (F.key n)->F.lev n=ZZ
   refine⟨I2,
    ⟨_,_,_,_,_,rfl,C,c.ca.a2T c.ca j,λk O=>by lia⟩,λ_ _ _ _ _=>trivial,?_,?_⟩
   .rintro i dd σ d x ⟨r,t,u,v,w,rfl,K,X,g⟩;obtain⟨ns,L,rfl⟩:=VG x;obtain⟨n,E,rfl⟩:=aF.mp (a.subset (aJ L));have Y:n<s.facts.length:=by unfold Fa.told at E;exact cT.mp (du.mp E).1
    obtain⟨f,l⟩:∃f,s.facts[n]?=Z_ f:=⟨_,aj Y⟩
    obtain⟨Z,F2,F3,F4⟩:=Ft l;have c1:=c.keep K X;dsimp[Ea,Fa.key];refine oA c.good c1.pl l o.bel ?_;refine⟨s,p,U,B,_,room,rfl,c1,P f (aJ l),λm1 M N=>?_⟩;rw[<-F4];cases hl:F.lev n with
    |none=>
     dsimp[fX];refine⟨_,_,_,_,_,rfl,K.mv M,N,λk O n' G=>?_⟩;rcases AY k i with h|h
     .exact g k h n' G
     .have:k=i:=by lia
      subst this;rw[L]at G;have:n=n':=by
       have:=az G;unfold Fa.key at this;injection this with _ this
       injection this with _ this
       injection this with this _
       lia
      rwa[<-this]
    |some lv=>
     dsimp[fX];have hw:=F.weakS a A L E hl g;rw[hw]at q;have q:=q (base B m m1) (wY B m m1) (wZ N);refine .sub (oW.base (K.mv M)) ?_;have e:(0:Int)-(0-(F.left n:Int))=(F.left n:Int):=by lia
     rwa[e]
   .rintro σ d ⟨r,t,u,v,w,rfl,K,X,g⟩;rw[ah]at g;have hw:=F.a5l a λn L=>by
     obtain⟨k,O⟩:=jI L;exact g k (ax.mp O).1 n O
    rw[hw]at q;exact .sub (oW.base K) (q (base B m d) (wY B m d) (wZ X))
def MS(s:ae)(p:bM)(room:Nat):List Int:=if (bC s room p.belief).over=ZY then [-6] else match au (cc (a9 s) (bC s room p.belief)) 0 with
  |some k=>[2,(k:Int)]
  |none=>match jY (MR s p room) with
   |none=>[0]
   |some x=>[1,(x.fact:Int),(x.left:Int),(x.price:Int),(x.level:Int)]
inductive oI:Prop|mk s p U B room:A'=[.ref B.q,.lst [.int ((room:Nat):Int)]]->i_ s p U B B'->Bo s p->rj s U room p.belief->(∀a,Mv B B' a->bT s U B a->D' (.lst (dI (MS s p room))) a)->oI
nonrec def Jg:dR (Bj a1S a1Z a5X) uN oI:=by
 intro ds m Q h;obtain⟨s,p,U,B,room,rfl,c,g,e,q⟩:=h;dsimp[Bj,uN,aW _ c.pl.q,gX,gF];refine pG c e λm' i c3 j b w y=>?_;obtain⟨A,C,D⟩:=EJ c b j y;have hm:=e.map c.good;unfold MS at q;dsimp[aW _ w,Ag];refine dY (λh=>?_) λh=>?_
 .rw[i0p h]at q;exact .sub D (q _ A C)
 .rw[i0n (by rw[h];exact aB)]at q;refine oB c.good j.pl w hm ?_;have l:0<(cc (a9 s) (bC s room p.belief)).length:=by rw[kg hm];exact pH
  have o:tL ((cc (a9 s) (bC s room p.belief)).map fX) 0=_:=uR l;dsimp[o];cases d:au (cc (a9 s) (bC s room p.belief)) 0 with
  |some k=>rw[d]at q;dsimp[fX];exact .sub D (q _ A C)
  |none=>
   rw[d]at q;simp only at q;dsimp[fX];refine⟨s,p,U,B,room,rfl,j,g,λf _=>e.kept h,λr t u=>?_⟩;have n:=c.ca.noN b;have v:Mv B m (jd r i):=λa h1 E=>by
    unfold jd;split
    .rename_i e;subst e;exact b.symm
    .rename_i e;rw[t a h1 E];refine y a ?_;rintro (z|z|z)
     .exact h1 z
     .exact E z
     .exact e z
   have q:=q _ v (u.congr (gh (aG n.1)) (gh (aG n.2)));cases hw:jY (MR s p room) with
   |none=>rw[hw]at q;dsimp[Ve,rZ];exact .sub (yH r i) q
   |some x=>rw[hw]at q;dsimp[Ve,rZ];exact .sub (yH r i) q
def mo8:qW oG:=by rintro ds m Q Q' f ⟨s,p,U,B,i,e,h1,c,d,g,h,j,k,q⟩;exact⟨s,p,U,B,i,e,h1,c,d,g,h,j,k,λl a b=>f _ _ (q l a b)⟩
def mo9:qW oE:=by rintro ds m Q Q' f ⟨s,p,U,B,x,e,h1,c,d,q⟩;exact⟨s,p,U,B,x,e,h1,c,d,λg a b=>f _ _ (q g a b)⟩
def a1s:qW lL:=by rintro ds m Q Q' f ⟨s,p,B,x,e,h1,a,b,q⟩;exact⟨s,p,B,x,e,h1,a,b,f _ _ q⟩
def a1t:qW mK:=by rintro ds m Q Q' f ⟨s,p,B,x,e,h1,a,b,c,q⟩;exact⟨s,p,B,x,e,h1,a,b,c,f _ _ q⟩
def a1u:qW mH:=by rintro ds m Q Q' f ⟨s,p,U,B,i,e,h1,c,q⟩;exact⟨s,p,U,B,i,e,h1,c,λd a b=>f _ _ (q d a b)⟩
def a1v:qW oC:=by rintro ds m Q Q' f ⟨s,p,U,B,i,e,h1,c,q⟩;exact⟨s,p,U,B,i,e,h1,c,λd a b=>f _ _ (q d a b)⟩
def a1w:qW mL:=by rintro ds m Q Q' f ⟨s,p,U,B,x,e,h1,c,d,q⟩;exact⟨s,p,U,B,x,e,h1,c,d,λg a b=>f _ _ (q g a b)⟩
def a1x:qW pY:=by rintro ds m Q Q' f ⟨s,p,B,i,e,h1,a,b,q⟩;exact⟨s,p,B,i,e,h1,a,b,f _ _ q⟩
def a1y:qW oF:=by rintro ds m Q Q' f ⟨s,p,U,B,i,e,h1,c,d,g,q⟩;exact⟨s,p,U,B,i,e,h1,c,d,g,λh a b=>f _ _ (q h a b)⟩
def a1z:qW oI:=by rintro ds m Q Q' f ⟨s,p,U,B,i,e,h1,c,d,q⟩;exact⟨s,p,U,B,i,e,h1,c,d,λg a b=>f _ _ (q g a b)⟩
def a1A:qW pX:=by rintro ds m Q Q' f ⟨s,p,U,B,i,e,h1,c,q⟩;exact⟨s,p,U,B,i,e,h1,c,λd a b=>f _ _ (q d a b)⟩
def a1B:qW kj:=by rintro ds m Q Q' f ⟨s,p,U,B,i,e,h1,c,q⟩;exact⟨s,p,U,B,i,e,h1,c,λd a b=>f _ _ (q d a b)⟩
def a1C:qW lK:=by rintro ds m Q Q' f ⟨s,p,B,x,e,h1,a,q⟩;exact⟨s,p,B,x,e,h1,a,f _ _ q⟩
def a1D:qW oH:=by rintro ds m Q Q' f ⟨s,p,B,x,e,h1,a,b,q⟩;exact⟨s,p,B,x,e,h1,a,b,f _ _ q⟩
def a1E:qW mI:=by rintro ds m Q Q' f ⟨s,p,B,x,e,h1,q⟩;exact⟨s,p,B,x,e,h1,f _ _ q⟩
def tp:Nat->Option (ak×dW)
 |8=>Z_ (pU,oG)
 |9=>Z_ (pS,oE)
 |10=>Z_ (mz,lL)
 |11=>Z_ (nM,mK)
 |12=>Z_ (nN,mH)
 |13=>Z_ (pT,oC)
 |14=>Z_ (nO,mL)
 |15=>Z_ (rA,pY)
 |16=>Z_ (pQ,oF)
 |17=>Z_ (pR,oI)
 |18=>Z_ (rB,pX)
 |19=>Z_ (kT,kj)
 |20=>Z_ (my,lK)
 |21=>Z_ (pP,oH)
 |22=>Z_ (nL,mI)
 |_=>ZZ
def vR(f:ak)(sp:dW):Prop:=∃n,tp n=Z_ (f,sp)
def LD{n:Nat}{f sp}(h:tp n=Z_ (f,sp)):qW sp:=by
 unfold tp at h;split at h<;>cases h
 .exact mo8
 .exact mo9
 .exact a1s
 .exact a1t
 .exact a1u
 .exact a1v
 .exact a1w
 .exact a1x
 .exact a1y
 .exact a1z
 .exact a1A
 .exact a1B
 .exact a1C
 .exact a1D
 .exact a1E
def WE{n:Nat}{f sp}(h:tp n=Z_ (f,sp)):∃l,rD=.mtup l/\tL l ((n:Int)-7-1)=Z_ (.ref f):=by
 unfold tp at h;split at h<;>cases h
 .exact⟨_,rfl,d9 (j:=0) rfl⟩
 .exact⟨_,rfl,d9 (j:=1) rfl⟩
 .exact⟨_,rfl,d9 (j:=2) rfl⟩
 .exact⟨_,rfl,d9 (j:=3) rfl⟩
 .exact⟨_,rfl,d9 (j:=4) rfl⟩
 .exact⟨_,rfl,d9 (j:=5) rfl⟩
 .exact⟨_,rfl,d9 (j:=6) rfl⟩
 .exact⟨_,rfl,d9 (j:=7) rfl⟩
 .exact⟨_,rfl,d9 (j:=8) rfl⟩
 .exact⟨_,rfl,d9 (j:=9) rfl⟩
 .exact⟨_,rfl,d9 (j:=10) rfl⟩
 .exact⟨_,rfl,d9 (j:=11) rfl⟩
 .exact⟨_,rfl,d9 (j:=12) rfl⟩
 .exact⟨_,rfl,d9 (j:=13) rfl⟩
 .exact⟨_,rfl,d9 (j:=14) rfl⟩
inductive a5t:Prop|mk (z:D) (n:Nat) (args:D) (f:ak) (b:dW):A'=[z,.int (n:Int),args]->tp n=Z_ (f,b)->b [z,args] B' D'->a5t
def Dx:dR (vG vR) pF a5t:=by intro ds m Q h;obtain⟨z,n,args,f,b,rfl,a,q⟩:=h;obtain⟨l,c,e⟩:=WE a;dsimp[vG,pF,CN,c,e];exact⟨b,⟨n,a⟩,LD a _ _ _ _ (λd m q=>.ret q) q⟩
def Jh:qW a5m:=λds m Q Q' f ⟨z,n,args,a,c,e,b,q⟩=>⟨z,n,args,a,c,e,b,Ol b _ _ _ _ f q⟩
inductive a5T:Prop|mk (x z:ak) (d:D) (n:Nat) (args:D):A'=[.ref x,.int (n:Int),args]->B' x=Z_ (.ins iW (fJ z d))->(a5m [.ref z,.int (n:Int),args] B' λr a=>∃(h:Int) (t:List Int),r=.lst (dI (h::t))/\a x=Z_ (.ins iW (fJ z d))/\(0<=h->D' r (bQ a x (.ins iW (fJ z .non))))/\(h<0->D' r a))->a5T
def Gx:dR (zA a5m) sY a5T:=by
 intro ds m Q h;obtain⟨x,z,d,n,args,rfl,c,q⟩:=h;dsimp[zA,sY,aW _ c,Ao];refine Jh _ _ _ _ (λr m1 h=>?_) q;obtain⟨h,t,rfl,b,e,f⟩:=h;have g:dI (h::t)=.int h::dI t:=rfl;dsimp[g,gF];refine dY (λa=>?_) λa=>?_
 .have a:0<=h:=by simpa using a
  dsimp[iN b MK,ER];exact .ret (e a)
 .have a:h<0:=by simp at a;lia
  exact .ret (f a)
inductive a5N:Prop|mk s A x d n:A'=[.ref x,.int ((n:Nat):Int)]->B' x=Z_ (.ins iW (fJ A.z d))->et s A B'->qw s->(400<eY s.maybes->D' (.lst (dI [-4])) B')->(eY s.maybes<=400->40<(cI s).length->D' (.lst (dI [-5])) B')->(eY s.maybes<=400->(cI s).length<=40->∀B b,B.A=A->eP s (EO s (cI s) n) B b->bT s [] B b->zL B->(∀a,a=B.q\/a=B.b1\/a=B.b2\/a=B.b3->B' a=ZZ)->uY (λa=>a=x\/a=B.q\/a=B.b1\/a=B.b2\/a=B.b3) B' b->b x=Z_ (.ins iW (fJ A.z (.ref B.q)))->D' (.lst (dI [((cI s).length:Int)])) b)->a5N
def Dy{s A m a z d}(b:et s A m)(hz:pZ A a)(c:m a=Z_ (.ins iW (fJ z d))):False:=by
 rcases hz with h|h|h|h|h|h|h<;>subst h
 .have:=b.z;rw[c]at this;injection this with this;injection this with h1 e;cases e
 .have:=b.sizes;rw[c]at this;cases this
 .have:=b.begins;rw[c]at this;cases this
 .have:=b.spans;rw[c]at this;cases this
 .have:=b.doings;rw[c]at this;cases this
 .have:=b.views;rw[c]at this;cases this
 .have:=b.facts;rw[c]at this;cases this
def qw.a4Q{s:ae}(h:qw s):∀x∈s.maybes,x.1<=x.2/\x.2<=1000:=λx a=>by obtain⟨i,c⟩:=jI a;obtain⟨n,b,_,_,h3,h4,h5,h6⟩:=h.spans i x c;lia
def J_:dR (D5 a6h a5K a5x j_) wN a5N:=by
 intro ds m Q h;obtain⟨s,A,x,d,n,rfl,b,i,g,E,F,G⟩:=h;dsimp[D5,wN,aW _ b,Ao];refine⟨s,A,rfl,i,g.a4Q,?_⟩;dsimp[];refine dY (λc=>?_) λc=>?_
 .have c:400<eY s.maybes:=by simp at c;lia
  exact .ret (E c)
 .have c:eY s.maybes<=400:=by simp at c;lia
  dsimp[aW _ b,Ao];refine⟨s,A,rfl,i,g.a4Q,c,g.good.maybes,g.good.begins,g.good.vars,g.good.views,?_⟩;dsimp[ah];refine dY (λf=>?_) λf=>?_
  .have f:40<(cI s).length:=by simp at f;lia
   exact .ret (F c f)
  .have f:(cI s).length<=40:=by simp at f;lia
   dsimp[aW _ b,Ao];intro y p;have H:x≠y:=λe=>by rw[e,p]at b;cases b
   have I:∀a,pZ A a->a≠y:=λa j e=>by obtain⟨o,h1,_⟩:=i.at j;rw[e,p]at h1;cases h1
   refine⟨s,A,y,cI s,n,rfl,aS,i.a2u I,λB J eq v r K L M N O w=>?_⟩;have t:∀{a},(bQ m y (.ins j_ [])) a=ZZ->m a=ZZ/\a≠y:=λ{a} h=>by
    have C:a≠y:=λe=>by rw[e,aS]at h;cases h
    rw[ao C]at h;exact⟨h,C⟩
   obtain⟨P,_⟩:=t M;obtain⟨R,_⟩:=t N;obtain⟨g3,_⟩:=t O;have D:∀a,a=B.q\/a=B.b1\/a=B.b2\/a=B.b3->m a=ZZ:=by
    rintro a (h|h|h|h)
    .rwa[h,eq]
    .rwa[h]
    .rwa[h]
    .rw[h];exact g3
   have k:¬(x=B.q\/x=B.b1\/x=B.b2\/x=B.b3):=λh=>by rw[D x h]at b;cases b
   have u:J x=Z_ (.ins iW (fJ A.z d)):=by rwa[w x k,ao H]
   dsimp[iN u MK,ER,ah];rw[<-eq];refine .ret (G c f B _ v ?_ ?_ L D (λa j=>?_) aS)
   .refine⟨r.puz.mono λa o e l=>?_,?_,?_⟩
    .have l:pZ B.A a:=l;rw[v]at l;rw[ao λe=>?_]
     .exact e
     .subst e;exact Dy i l b
    .rw[ao λe=>k (.inl e.symm)];exact r.q
    .rw[ao λe=>k (.inr (.inl e.symm))];exact r.past
   .exact K.congr (ao λe=>k (.inr (.inr (.inl e.symm)))) (ao λe=>k (.inr (.inr (.inr e.symm))))
   .rw[ao λe=>j (.inl e),w a λe=>j (.inr e),ao λe=>j (.inr (.inl (e.trans eq.symm)))]
structure GA where
 x:ak
 A:PA
 B:QA
def Za(live:Bool)(G:GA)(a:ak):Prop:=a=G.x\/pZ G.A a\/(live=ZY/\(a=G.B.q\/a=G.B.b1\/a=G.B.b2\/a=G.B.b3))
structure iO(s:ae)(U:List (List Nat))(G:GA)(m:M):Prop where
 puz:et s G.A m
 nd:R7 G.A
 no:s.play=ZZ->m G.x=Z_ (.ins iW (fJ G.A.z .non))
 yes:∀p,s.play=Z_ p->G.B.A=G.A/\m G.x=Z_ (.ins iW (fJ G.A.z (.ref G.B.q)))/\i_ s p U G.B m/\zL G.B
def Fr(s:ae)(G:GA)(m:M)(b:ae)(c:GA)(m':M):Prop:=∀a o,m a=Z_ o->¬Za s.play.isSome G a->m' a=Z_ o/\¬Za b.play.isSome c a
def iO.gm{s U G m}(h:iO s U G m):∃d,m G.x=Z_ (.ins iW (fJ G.A.z d))/\(s.play=ZZ->d=.non)/\(∀p,s.play=Z_ p->d=.ref G.B.q):=by
 cases a:s.play with
 |none=>exact⟨_,h.no a,λ_=>rfl,λp e=>by cases e⟩
 |some p=>exact⟨_,(h.yes p a).2.1,λe=>(by cases e),λ_ _=>rfl⟩
def bT.grow{s U U' B m}(c:bT s U B m)(h:∀v∈U,v∈U'):bT s U' B m:=by
 obtain⟨S,T,f,g,i,j,k,l⟩:=c.ex;refine⟨c.ne,S,T,f,g,λe b=>?_,λe b=>?_,k,l⟩
 .obtain⟨v,a,d⟩:=i e b;refine⟨v,?_,d⟩;unfold around at a ⊢;rcases aX.mp a with h1|h1
  .exact b9 _ (h v h1)
  .obtain⟨u,n,o⟩:=gS.mp h1;exact cG _ (gS.mpr ⟨u,h u n,o⟩)
 .obtain⟨v,a,d⟩:=j e b;exact⟨v,h v a,d⟩
def i_.grow{s p U B m}(c:i_ s p U B m)(T:List (List Nat))(a:(U++T).length<=700000):i_ s p (U++T) B m:=⟨c.good,c.pl,c.ca.grow λv b=>b9 _ b,a⟩
def et.a1X{s A m}(h:et s A m)(x:Option bM):et {s with play:=x} A m:=⟨h.z,h.sizes,h.begins,h.spans,h.doings,h.views,h.facts⟩
def i_.a1X{s p U B m}(c:i_ s p U B m)(x:Option bM):i_ {s with play:=x} p U B m:=by refine⟨c.good.a1X x,⟨c.pl.puz.a1X x,c.pl.q,c.pl.past⟩,?_,c.ul⟩;obtain⟨S,T,a,b,d,e,f,g⟩:=c.ca.ex;exact⟨c.ca.ne,S,T,a,b,d,e,f,g⟩
def Vf{s p U B m x z d}(c:i_ s p U B m)(a:m x=Z_ (.ins iW (fJ z d))):x≠B.q/\x≠B.b1/\x≠B.b2/\x≠B.b3:=by
 obtain⟨S,T,b,f,_⟩:=c.ca.ex;refine⟨λe=>?_,λe=>?_,λe=>?_,λe=>?_⟩
 .have:=c.pl.q;rw[<-e,a]at this;injection this with this;injection this with h1 g;cases g
 .have:=c.pl.past;rw[<-e,a]at this;cases this
 .rw[<-e,a]at b;cases b
 .rw[<-e,a]at f;cases f
def Dz{c}(h:fO c=ZY):∃a,qu c a:=by have h1:=h;rw[tm]at h1;unfold mY at h1;simp only[a_,decide_eq_true_eq]at h1;unfold fO at h;rw[a_]at h;obtain⟨a,b⟩:=fM.mp h.2;exact⟨a,b,h1.1.2,by lia⟩
def WG{c:List Int}(h:(decide (c.length<=30)&&(e8 c).isSome)=ZY):∃a,MH c a:=by have h1:=h;rw[Lw]at h1;unfold mY at h1;simp only[a_,decide_eq_true_eq]at h1;rw[a_]at h;obtain⟨a,b⟩:=fM.mp h.2;exact⟨a,b,h1.1.2,by lia⟩
def lP{x lo a:Int}(h:cJ x lo a=ZY)(hl:0<=lo):∃n:Nat,x=(n:Int)/\lo<=(n:Int)/\(n:Int)<=a:=by unfold cJ at h;simp only[a_,decide_eq_true_eq]at h;exact⟨x.toNat,by lia,by lia,by lia⟩
def Vg{s A m c}(j:mq s)(h:et s A m)(i:R7 A)(d:jJ c=ZY)(h1:1<=(aV c).1)(k:(aV c).1<7)(Q:qE)(q:∀m',et (bu s c).1 A m'->uY (pZ A) m m'->Q (.lst (dI (bu s c).2)) m'):
  a5m [.ref A.z,.int ((aV c).1:Int),.lst (aV c).2] m Q:=by
 have l:=j.begins;have o:=j.maybes;have b3:=j.vars;cases c with
 |var n b=>have d:(cJ n 1 50&&cJ b 0 (n-1))=ZY:=d;rw[a_]at d;obtain⟨n,rfl,_⟩:=lP d.1 (by decide);obtain⟨b,rfl,_⟩:=lP d.2 (by decide);exact⟨_,1,_,_,_,rfl,rfl,s,A,n,b,rfl,h,i,by lia,by lia,q⟩
 |doing c e=>have d:(fO c&&(decide (e.length<=30)&&(e8 e).isSome))=ZY:=d;rw[a_]at d;obtain⟨f,g⟩:=Dz d.1;obtain⟨p,r⟩:=WG d.2;exact⟨_,2,_,_,_,rfl,rfl,s,A,c,e,f,p,rfl,h,i,g,r,q⟩
 |goal c=>obtain⟨f,g⟩:=Dz d;exact⟨_,3,_,_,_,rfl,rfl,s,A,c,f,rfl,h,g,q⟩
 |see v c=>have d:(cJ v 0 7&&fO c)=ZY:=d;rw[a_]at d;obtain⟨v,rfl,_⟩:=lP d.1 (by decide);obtain⟨f,g⟩:=Dz d.2;exact⟨_,4,_,_,_,rfl,rfl,s,A,v,c,f,rfl,h,i,g,q⟩
 |maybe v a b=>have d:(cJ v 0 7&&(cJ a 0 49&&cJ b a 49))=ZY:=d;rw[a_,a_]at d;obtain⟨v,rfl,_⟩:=lP d.1 (by decide);obtain⟨a,rfl,a1,_⟩:=lP d.2.1 (by decide);obtain⟨b,rfl,_⟩:=lP d.2.2 (by lia);exact⟨_,5,_,_,_,rfl,rfl,s,A,v,a,b,rfl,h,i,l,o,q⟩
 |fact n c=>have d:(cJ n 0 1000&&fO c)=ZY:=d;rw[a_]at d;obtain⟨v,rfl,_⟩:=lP d.1 (by decide);obtain⟨f,g⟩:=Dz d.2;exact⟨_,6,_,_,_,rfl,rfl,s,A,v,c,f,rfl,h,i,g,q⟩
 |_=>exfalso;simp only[aV]at h1 k;lia
def WH{s c}(h1:1<=(aV c).1)(d:(aV c).1<7):∃h t,(bu s c).2=h::t/\((h<0/\(bu s c).1=s)\/(0<=h/\(bu s c).1.play=ZZ)):=by
 cases c with
 |var n b=>
  unfold bu;simp only;split
  .exact⟨_,_,rfl,.inl ⟨by decide,rfl⟩⟩
  .exact⟨_,_,rfl,.inr ⟨by lia,rfl⟩⟩
 |doing c e=>
  unfold bu;simp only;split
  .exact⟨_,_,rfl,.inl ⟨by decide,rfl⟩⟩
  .split
   .exact⟨_,_,rfl,.inl ⟨by decide,rfl⟩⟩
   .exact⟨_,_,rfl,.inr ⟨by lia,rfl⟩⟩
 |goal c=>
  unfold bu;simp only;split
  .exact⟨_,_,rfl,.inl ⟨by decide,rfl⟩⟩
  .exact⟨_,_,rfl,.inr ⟨by decide,rfl⟩⟩
 |see v c=>
  unfold bu;simp only;split
  .exact⟨_,_,rfl,.inl ⟨by decide,rfl⟩⟩
  .split
   .exact⟨_,_,rfl,.inl ⟨by decide,rfl⟩⟩
   .exact⟨_,_,rfl,.inr ⟨by decide,rfl⟩⟩
 |maybe v a b=>
  unfold bu;simp only;split
  .split
   .exact⟨_,_,rfl,.inl ⟨by decide,rfl⟩⟩
   .split
    .exact⟨_,_,rfl,.inl ⟨by decide,rfl⟩⟩
    .exact⟨_,_,rfl,.inr ⟨by decide,rfl⟩⟩
  .exact⟨_,_,rfl,.inl ⟨by decide,rfl⟩⟩
 |fact n c=>
  unfold bu;simp only;split
  .exact⟨_,_,rfl,.inl ⟨by decide,rfl⟩⟩
  .split
   .exact⟨_,_,rfl,.inl ⟨by decide,rfl⟩⟩
   .exact⟨_,_,rfl,.inr ⟨by lia,rfl⟩⟩
 |_=>exfalso;simp only[aV]at h1 d;lia
def iO.a5p{s c U G m m' x}(h:iO s U G m)(g:et c G.A m')(i:uY (pZ G.A) m m')(f:c.play=ZZ)(j:x=G.x):iO c U G (bQ m' x (.ins iW (fJ G.A.z .non)))/\Fr s G m c G (bQ m' x (.ins iW (fJ G.A.z .non))):=by
 subst j;obtain⟨d,k,_⟩:=h.gm;refine⟨⟨g.a2u λa l e=>?_,h.nd,λ_=>aS,λp e=>by rw[f]at e;cases e⟩,λa o n b=>⟨?_,?_⟩⟩
 .subst e;exact Dy h.puz l k
 .rwa[ao λe=>b (.inl e),i a λe=>b (.inr (.inl e))]
 .rintro (e|e|⟨e,_⟩)
  .exact b (.inl e)
  .exact b (.inr (.inl e))
  .rw[f]at e;cases e
def iO.same{s U G m m'}(h:iO s U G m)(n:et s G.A m')(f:uY (pZ G.A) m m'):iO s U G m'/\Fr s G m s G m':=by
 have r:∀{a d},m a=Z_ (.ins iW (fJ G.A.z d))->¬pZ G.A a:=λb e=>Dy h.puz e b;refine⟨⟨n,h.nd,λe=>?_,λp e=>?_⟩,λa o v c=>⟨by rwa[f a λe=>c (.inr (.inl e))],c⟩⟩
 .have:=h.no e;rwa[f _ (r this)]
 .obtain⟨k,t,i,l⟩:=h.yes p e;refine⟨k,by rwa[f _ (r t)],?_,l⟩;obtain⟨S,T,w,x,_⟩:=i.ca.ex;have u:∀{a j},m a=Z_ (.dic j)->¬pZ G.A a:=λ{a j} b e=>by
   have g:=h.puz;rcases e with e|e|e|e|e|e|e<;>subst e
   .rw[g.z]at b;cases b
   .rw[g.sizes]at b;cases b
   .rw[g.begins]at b;cases b
   .rw[g.spans]at b;cases b
   .rw[g.doings]at b;cases b
   .rw[g.views]at b;cases b
   .rw[g.facts]at b;cases b
  refine⟨i.good,⟨by rwa[k],?_,?_⟩,i.ca.congr (f _ (u w)) (f _ (u x)),i.ul⟩
  .rw[f _ λz=>?_]
   .exact i.pl.q
   .rw[<-k]at z;exact (l.ne _ z).1 rfl
  .rw[f _ λz=>?_]
   .exact i.pl.past
   .rw[<-k]at z;exact (l.ne _ z).2 rfl
def iO.kept{s U U' G m m' p}(h:iO s U G m)(c:s.play=Z_ p)(f:Mv G.B m m')(k:bT s U' G.B m')(l:U'.length<=700000):iO s U' G m'/\Fr s G m s G m':=by
 obtain⟨g,i,d,n⟩:=h.yes p c;obtain⟨n1,n2,q,r⟩:=Vf d i;have j:eP s p G.B m':=d.pl.mv d.ca λa o e h1 t=>(f a h1 t).trans e;refine⟨⟨by rw[<-g];exact j.puz,h.nd,λe=>(by rw[c]at e;cases e),λp' e=>?_⟩,λa o u b=>⟨?_,b⟩⟩
 .rw[c]at e;cases e;exact⟨g,by rwa[f _ q r],⟨d.good,j,k,l⟩,n⟩
 .rwa[f a (λe=>b (.inr (.inr ⟨by rw[c];rfl,.inr (.inr (.inl e))⟩))) λe=>b (.inr (.inr ⟨by rw[c];rfl,.inr (.inr (.inr e))⟩))]
def iO.moved{s U U' G m m' p p'}(h:iO s U G m)(f:s.play=Z_ p)(g:FQ G.B m m')(c:i_ s p' U' G.B m'):iO {s with play:=Z_ p'} U' G m'/\Fr s G m {s with play:=Z_ p'} G m':=by
 obtain⟨i,j,k,l⟩:=h.yes p f;obtain⟨n,r,t,u⟩:=Vf k j;refine⟨⟨by rw[<-i];exact c.pl.puz.a1X _,h.nd,λe=>(by cases e),λp2 e=>?_⟩,λa o v b=>⟨?_,?_⟩⟩
 .cases e;exact⟨i,by rwa[g _ t u n r],c.a1X _,l⟩
 .have d:∀z,a=z->(z=G.B.q\/z=G.B.b1\/z=G.B.b2\/z=G.B.b3)->False:=λz e w=>b (.inr (.inr ⟨by rw[f];rfl,by rwa[e]⟩));rwa[g a (λe=>d _ e (by simp)) (λe=>d _ e (by simp)) (λe=>d _ e (by simp)) λe=>d _ e (by simp)]
 .rw[f]at b;exact b
def SM{n k:Nat}:∀{l:List (List (List Nat))},(∀x∈l,x.length<=k)->l.length<=n->l.flatten.length<=n*k:=by
 intro l h a;have:l.flatten.length<=l.length*k:=by
  clear a;induction l with
  |nil=>simp
  |cons x l b=>rw[List.flatten_cons,aK,aZ,Nat.add_mul,Nat.one_mul];have:=b λy c=>h y (by simp[c]);have:=h x (by simp);lia
 exact c6 this (Nat.mul_le_mul_right k a)
def uU.bok{s p}(h:uU s p):YJ s p.belief:=⟨h.nd,λv a=>(h.vok v a).len,by have:=h.len;lia⟩
def uU.a5s{s p}(h:uU s p):Bo s p:=⟨h.vok _ h.now,h.vok⟩
def Vh{s p}{room:Nat}(g:mq s)(h:uU s p)(U:List (List Nat))(h1:1<=room)(h2:room<=60):rj s (U++(bC s room p.belief).nodes.flatten) room p.belief/\(bC s room p.belief).nodes.flatten.length<=2400:=by obtain⟨_,e2,b⟩:=xh g h.bok h.vok h1;refine⟨⟨h.bok,h.vok,h1,by lia,λx a v c=>cG _ (List.mem_flatten.mpr ⟨x,a,c⟩)⟩,?_⟩;have:=SM (n:=60) (k:=40) (l:=(bC s room p.belief).nodes) (λx a=>by have:=(b.ok x a).2.2;have:=h.len;lia) (by lia);exact this
nonrec def LF(s:ae)(v:VV):(cn (ir s v)).length<=200:=by
 have lk:∀(b:List (Nat×VV)) (i:Nat) (y:t8×List (Nat×Nat)),(cn y.1).length<=200->(cn (b.foldl (c_ (a9 s) 200 i) y).1).length<=200:=by
  intro b;induction b with
  |nil=>intro i y h;exact h
  |cons a b c=>
   intro i y h;refine c i _ ?_;unfold c_;split
   .exact h
   .split
    .rename_i hlt;simp[cn];lia
    .exact h
 have:∀(f i:Nat) (m:t8),(cn m).length<=200->(cn (Gu s f i m)).length<=200:=by
  intro f;induction f with
  |zero=>intro i m h;exact h
  |succ f c=>
   intro i m h;by_cases d:i<(cn m).length
   .obtain⟨x,e⟩:∃x,(cn m)[i]?=Z_ x:=⟨_,aj d⟩
    rw[Aq e];exact c (i+1) _ (lk _ _ (m,[]) h)
   .rwa[Dt (by lia)]
 exact this 201 0 _ (by simp[cn])
def DA{s:ae}{p:bM}{n:Int}{k}(a:s.play=Z_ p):tE s n k=if (bC s n.toNat p.belief).over=ZY then (s,[-6]) else k p (bC s n.toNat p.belief) (cc (a9 s) (bC s n.toNat p.belief)):=by unfold tE jK;rw[a]
def jR{s:ae}{p k}(a:s.play=Z_ p):jK s k=k p:=by unfold jK;rw[a]
def SN{s U G m p c}(O:qw s)(h:iO s U G m)(i:s.play=Z_ p)(r:jJ c=ZY)(S:7<(aV c).1)(hU:U.length<=400000)(Q:qE)
  (q:∀m' U',iO (bu s c).1 U' G m'->U'.length<=U.length+2500->Fr s G m (bu s c).1 G m'->Q (.lst (dI (bu s c).2)) m') :
  a5t [.ref G.B.q,.int ((aV c).1:Int),.lst (aV c).2] m Q:=by
 have z:=O.good;have t:=O.play p i;obtain⟨y1,y2,o,P⟩:=h.yes p i;have b40:=t.len;have b200:=t.past;have u:=t.a5s;have b:∀(a:List Int),bu s c=(s,a)->Q (.lst (dI a)) m:=λa e=>by have q:=q m U;rw[e]at q;obtain⟨A,C⟩:=h.kept (U':=U) i (Mv.refl G.B m) o.ca (by lia);exact q A (by lia) C
 have kept:∀(T:List (List Nat)) (a:List Int),T.length<=2500->bu s c=(s,a)->∀m',Mv G.B m m'->bT s (U++T) G.B m'->Q (.lst (dI a)) m':=λT a R e m' K L=>by
  have q:=q m' (U++T);rw[e]at q;have V:(U++T).length<=U.length+2500:=by rw[aK];lia
  obtain⟨A,C⟩:=h.kept i K L (by lia);exact q A V C
 have moved:∀(T:List (List Nat)) (M:bM) (a:List Int),T.length<=2500->bu s c=({s with play:=Z_ M},a)->∀m',i_ s M (U++T) G.B m'->FQ G.B m m'->Q (.lst (dI a)) m':=λT M a R e m' L K=>by have q:=q m' (U++T);rw[e]at q;obtain⟨A,C⟩:=h.moved i K L;exact q A (by rw[aK];lia) C
 have grow:∀T:List (List Nat),T.length<=2500->i_ s p (U++T) G.B m:=λT R=>o.grow T (by rw[aK];lia);have j:∀n:Int,Vberaf.mostIn n=ZY->∃room:Nat,n=(room:Int)/\rj s (U++(bC s room p.belief).nodes.flatten) room p.belief/\(bC s room p.belief).nodes.flatten.length<=2500:=λn y=>by obtain⟨room,e,r1,r2⟩:=lP (show cJ n 1 60=ZY from y) (by decide);obtain⟨l,k⟩:=Vh z t U (room:=room) (by lia) (by lia);exact⟨room,e,l,by lia⟩
 have a5y:{s with play:=Z_ p}=s:=by cases s;simp only at i;rw[i]
 cases c with
 |play d=>
  obtain⟨d,rfl,_⟩:=lP (show cJ d 0 19=ZY from r) (by decide);have N:bu s (.play d)=({s with play:=Z_ (An s p d).1},(An s p d).2):=by
   refine (jR i).trans ?_;unfold An Vberaf.PAST;simp only[bA];by_cases h1:s.puzzle.doings.length<=d
   .rw[i0p h1,i0p h1,a5y]
   .rw[i0n h1,i0n h1];by_cases E:200<=p.past.length
    .rw[i0p E,i0p E,a5y]
    .rw[i0n E,i0n E];rfl
  exact⟨_,8,_,_,_,rfl,rfl,s,p,U++p.belief,G.B,d,rfl,grow _ (by lia),P,u,t.now,λv D=>cG _ D,by lia,by lia,moved _ _ _ (by lia) N⟩
 |view=>exact⟨_,9,_,_,_,rfl,rfl,s,p,U++[p.now],G.B,_,rfl,grow _ (by simp),by simp,u.now,kept _ _ (by simp) (jR i)⟩
 |belief=>exact⟨_,10,_,_,_,rfl,rfl,s,p,G.B,_,rfl,o.pl,λv D=>by rw[(t.vok v D).len];have:=z.vars;lia,by lia,b _ (jR i)⟩
 |known=>exact⟨_,11,_,_,_,rfl,rfl,s,p,G.B,_,rfl,z,o.pl,u,t.now,b _ (jR i)⟩
 |level n=>
  obtain⟨room,rfl,l,k⟩:=j n r;refine⟨_,12,_,_,_,rfl,rfl,s,p,_,G.B,room,rfl,grow _ k,l,kept _ _ k ?_⟩;simp only[bu];rw[DA i,bA];by_cases g:(bC s room p.belief).over=ZY
  .rw[i0p g,i0p g]
  .rw[i0n g,i0n g]
 |hint n=>
  obtain⟨room,rfl,l,k⟩:=j n r;refine⟨_,13,_,_,_,rfl,rfl,s,p,_,G.B,room,rfl,grow _ k,l,kept _ _ k ?_⟩;simp only[bu];rw[DA i,bA];by_cases g:(bC s room p.belief).over=ZY
  .rw[i0p g,i0p g]
  .rw[i0n g,i0n g];rfl
 |sight=>
  refine⟨_,14,_,_,_,rfl,rfl,s,p,U++cn (ir s p.now),G.B,_,rfl,grow _ ?_,u.now,λv D=>cG _ D,kept _ _ ?_ ?_⟩
  .have:=LF s p.now;lia
  .have:=LF s p.now;lia
  .refine (jR i).trans ?_;unfold tj ir;simp only;by_cases g:(Vberab.explore (a9 s) 200 p.now).over=ZY
   .rw[i0p g,i0p g]
   .rw[i0n g,i0n g];rfl
 |bar f=>obtain⟨f,rfl,_⟩:=lP (show cJ f 0 11=ZY from r) (by decide);refine⟨_,15,_,_,_,rfl,rfl,s,p,G.B,f,rfl,z,o.pl,u,b _ ?_⟩;refine (jR i).trans ?_;unfold PZ;simp only[bA];cases s.facts[f]?<;>rfl
 |tell f=>
  obtain⟨f,rfl,_⟩:=lP (show cJ f 0 11=ZY from r) (by decide);have N:bu s (.tell f)=({s with play:=Z_ (Am s p f).1},(Am s p f).2):=by
   refine (jR i).trans ?_;unfold Am Vberaf.PAST;simp only[bA];cases s.facts[f]? with
   |none=>simp only;rw[a5y]
   |some x=>
    simp only;generalize cZ (bB x) p.belief p.now p.purse=w;by_cases F:w=1
    .rw[i0p F,i0p F,a5y]
    .rw[i0n F,i0n F];by_cases H:w=2
     .rw[i0p H,i0p H,a5y]
     .rw[i0n H,i0n H];by_cases I:w=3
      .rw[i0p I,i0p I,a5y]
      .rw[i0n I,i0n I];by_cases J:200<=p.past.length
       .rw[i0p J,i0p J,a5y]
       .rw[i0n J,i0n J];rfl
  have:=o.grow [] (by simpa using o.ul);exact⟨_,16,_,_,_,rfl,rfl,s,p,U++[],G.B,f,rfl,this,P,u,by lia,moved [] _ _ (by simp) N⟩
 |lead n=>
  obtain⟨room,rfl,l,k⟩:=j n r;refine⟨_,17,_,_,_,rfl,rfl,s,p,_,G.B,room,rfl,grow _ k,u,l,kept _ _ k ?_⟩;simp only[bu];rw[DA i,bA];unfold MS;by_cases g:(bC s room p.belief).over=ZY
  .rw[i0p g,i0p g]
  .rw[i0n g,i0n g];rfl
 |map n=>obtain⟨room,rfl,l,k⟩:=j n r;refine⟨_,18,_,_,_,rfl,rfl,s,p,_,G.B,room,rfl,grow _ k,l,kept _ _ k ?_⟩;refine (jR i).trans ?_;simp only[bA]
 |strategy n=>
  obtain⟨room,rfl,l,k⟩:=j n r;refine⟨_,19,_,_,_,rfl,rfl,s,p,_,G.B,room,rfl,grow _ k,l,kept _ _ k ?_⟩;simp only[bu];rw[DA i,bA];by_cases g:(bC s room p.belief).over=ZY
  .rw[i0p g,i0p g]
  .rw[i0n g,i0n g];unfold vN;by_cases y:(au (c9 s (bC s room p.belief)) 0).isNone=ZY
   .rw[i0p y,i0p y]
   .rw[i0n y,i0n y];rfl
 |actual=>exact⟨_,20,_,_,_,rfl,rfl,s,p,G.B,_,rfl,o.pl,by rw[u.now.len];have:=z.vars;lia,b _ (jR i)⟩
 |past=>exact⟨_,21,_,_,_,rfl,rfl,s,p,G.B,_,rfl,o.pl,λe W=>by have:=t.ents e W;lia,by lia,b _ (jR i)⟩
 |purse=>exact⟨_,22,_,_,_,rfl,rfl,s,p,G.B,_,rfl,o.pl,b _ (jR i)⟩
 |_=>exfalso;simp only[aV]at S;lia
def zW:∀(d:List Str) (l:List Int) (as:List D),gW d l=Z_ as->∀c,D.lst (dI c)∈as->c.length<=l.length
 |[],l,as,h,c,g=>by
  rw[zU]at h;split at h
  .cases az h;cases g
  .cases h
 |k::d,[],as,h,c,g=>by cases h
 |k::d,x::l,as,h,c,g=>by
  rw[gW]at h;split at h
  .split at h
   .cases f:gW d (l.drop x.toNat) with
    |none=>rw[f]at h;cases h
    |some i=>
     rw[f]at h;cases az h;rcases aL.mp g with e|e
     .injection e with e
      have:c=l.take x.toNat:=G6 (λa b e=>by injection e) |>.mp e
      rw[this,eM,aZ];lia
     .have:=zW d _ i f c e;rw[mN]at this;rw[aZ];lia
   .cases h
  .cases f:gW d l with
   |none=>rw[f]at h;cases h
   |some i=>
    rw[f]at h;cases az h;rcases aL.mp g with e|e
    .cases e
    .have:=zW d _ i f c e;rw[aZ];lia
def Vi{r:List Int}{c}(h:oq r=Z_ (aV c).2)(a:r.length<=1000):Q7 c:=by
 have:∀x,D.lst (dI x)∈(aV c).2->x.length<=1000:=λx b=>by
  cases r with
  |nil=>cases h
  |cons y l=>
   unfold oq at h;simp only at h;split at h
   .have:=zW _ _ _ h x b;simp at a;lia
   .cases h
 cases c<;>simp only[Q7,aV]at this ⊢
 .exact⟨this _ (by simp),this _ (by simp)⟩
 .exact this _ (by simp)
 .exact this _ (by simp)
 .exact this _ (by simp)
inductive a5U:Prop|mk s U G r:A'=[.ref G.x,.lst (dI r)]->qw s->iO s U G B'->r.length<=80->U.length<=400000->(∀a b d,b.x=G.x->iO (f6 s r).1 d b a->d.length<=U.length+2500->Fr s G B' (f6 s r).1 b a->D' (.lst (dI (f6 s r).2)) a)->a5U
def Fr.refl(s:ae)(G:GA)(m:M):Fr s G m s G m:=λa o h n=>⟨h,n⟩
def MU:qW a5t:=λds m Q Q' f ⟨z,n,args,a,c,e,b,q⟩=>⟨z,n,args,a,c,e,b,LD b _ _ _ _ f q⟩
def call_clear{c}(h:(aV c).1=0):c=.clear:=by cases c<;>first|rfl|exact absurd h (Nat.ne_of_beq_eq_false rfl)
def call_opened{c}(h:(aV c).1=7):∃n,c=.opened n:=by cases c<;>first|exact⟨_,rfl⟩|exact absurd h (Nat.ne_of_beq_eq_false rfl)
def MV:dR (FL a5O a6k a5L a5T a5N a5t) zC a5U:=by
 intro ds m Q h;obtain⟨s,U,G,r,rfl,M,j,hl,hU,q⟩:=h;obtain⟨N,D,O,I⟩:=j.gm;dsimp[FL,zC];refine⟨r,rfl,by lia,?_⟩;have F:=SD r;unfold f6 at q;cases T:gq r with
 |none=>rw[T]at q F;have F:oq r=ZZ:=F;rw[F];dsimp[YE,rZ];exact .ret (q m G U rfl j (by lia) (Fr.refl s G m))
 |some c=>
  rw[T]at q F;obtain⟨V,l,e2⟩:=F;have P:=Vi V (by lia);rw[V];subst e2;obtain⟨k1,k2,b,k3,k4⟩:=Ov c P;have e0:dI (((aV c).1:Int)::l)=.int ((aV c).1:Int)::dI l:=rfl;dsimp[YE,rZ,e0,gF];refine⟨(aV c).1,(aV c).2,b,rfl,k1,k3,k2,?_⟩;rw[k4];simp only[Vberaf.step]at q;try dsimp[]
  refine dY (λw=>?_) λw=>?_
  .have w:jJ c=ZX:=PB w;rw[i0p w]at q;exact .ret (q m G U rfl j (by lia) (Fr.refl s G m))
  .have w:jJ c=ZY:=by cases h:jJ c<;>simp_all
   rw[i0n (by rw[w];simp)]at q;try dsimp[]
   refine dY (λH=>?_) λH=>?_
   .have H:(aV c).1=0:=by simp at H;lia
    have R:=call_clear H;subst R;refine⟨G.x,G.A.z,N,rfl,D,λA C hn=>?_⟩;obtain⟨n1,n2,n3,n4,n5⟩:=hn;refine .ret (q C {G with A:=A} U rfl ⟨n1,n2,λ_=>n3,λp u=>by cases u⟩ (by lia) λa o y f=>?_);have W:¬pZ A a:=λe=>by rw[n4 a e]at y;cases y
    refine⟨?_,?_⟩
    .rw[n5 a ?_]
     .exact y
     .rintro (e|e)
      .exact f (.inl e)
      .exact W e
    .rintro (e|e|⟨e,_⟩)
     .exact f (.inl e)
     .exact W e
     .cases e
   .have H:(aV c).1≠0:=by simp at H;lia
    try dsimp[]
    refine dY (λi=>?_) λi=>?_
    .have i:(aV c).1<7:=by simp at i;lia
     refine⟨G.x,G.A.z,N,(aV c).1,_,rfl,D,Vg M.good j.puz j.nd w (by lia) i _ λC u J=>?_⟩;obtain⟨h,t,S,v⟩:=WH (s:=s) (c:=c) (by lia) i;have E:C G.x=Z_ (.ins iW (fJ G.A.z N)):=by rw[J _ λe=>Dy j.puz e D];exact D
     refine⟨h,t,by rw[S],E,λh0=>?_,λh0=>?_⟩
     .rcases v with⟨h1,_⟩|⟨_,h1⟩
      .lia
      .obtain⟨K,L⟩:=j.a5p u J h1 rfl;exact .ret (q _ G U rfl K (by lia) L)
     .rcases v with⟨_,h1⟩|⟨h1,_⟩
      .rw[h1]at q u;obtain⟨K,L⟩:=j.same u J;exact .ret (q _ G U rfl K (by lia) L)
      .lia
    .have i:7<=(aV c).1:=by simp at i;lia
     try dsimp[]
     refine dY (λg=>?_) λg=>?_
     .have g:(aV c).1=7:=by simp at g;lia
      obtain⟨n,R⟩:=call_opened g;subst R;obtain⟨n,rfl,_⟩:=lP (show cJ n 0 10000=ZY from w) (by decide);have e3:(aV (.opened (n:Int))).2=[.int (n:Int)]:=rfl;dsimp[e3,gF];unfold bu Vberaf.BEGINNINGS Vberaf.STATES at q;simp only[bA]at q;refine⟨s,G.A,G.x,N,n,rfl,D,j.puz,M,λh1=>?_,λh1 X=>?_,λh1 X B C Y Z ca ap fr J E=>?_⟩
      .rw[i0p h1]at q;exact .ret (q m G U rfl j (by lia) (Fr.refl s G m))
      .rw[i0n (by lia),i0p X]at q;exact .ret (q m G U rfl j (by lia) (Fr.refl s G m))
      .rw[i0n (by lia),i0n (by lia)]at q;have ct:i_ s (EO s (cI s) n) U B C:=⟨M.good,Z,ca.grow (by simp),by lia⟩
       refine .ret (q C {G with B:=B} U rfl ⟨?_,j.nd,λe=>(by cases e),λp e=>?_⟩ (by lia) λa o y f=>⟨?_,?_⟩)
       .rw[<-Y];exact Z.puz.a1X _
       .cases e;exact⟨Y,E,ct.a1X _,ap⟩
       .rw[J a ?_]
        .exact y
        .rintro (e|e)
         .exact f (.inl e)
         .rw[fr a e]at y;cases y
       .rintro (e|e|⟨_,e⟩)
        .exact f (.inl e)
        .exact f (.inr (.inl e))
        .rw[fr a e]at y;cases y
     .have g:7<(aV c).1:=by simp at g;lia
      simp only[aW _ D,R8];cases u:s.play with
      |none=>
       rw[O u];dsimp[rZ];have S:bu s c=(s,[-2]):=by
        have o1:∀k,jK s k=(s,[-2]):=λk=>by unfold jK;rw[u]
        cases c<;>simp only[aV]at g<;>first|lia|exact o1 _|(show tE s _ _=_;unfold tE;exact o1 _)
       rw[S]at q;exact .ret (q m G U rfl j (by lia) (Fr.refl s G m))
      |some p=>rw[I p u];dsimp[rZ,aW _ D,R8,I p u];refine MU _ _ _ _ (λd m q=>.ret q) ?_;exact SN M j u w g hU _ λC U' K L g3=>q C G U' rfl K L g3
def DB{α β:Type}{f:α->List β}{n:Nat}:∀{b:List α},(∀v∈b,(f v).length<=n)->(b.flatMap f).length<=n*b.length
 |[],_=>by simp
 |v::b,h=>by rw[lR,aK,aZ,Nat.mul_add];have:=DB (b:=b) λw hw=>h w (by simp[hw]);have:=h v (by simp);lia
def Vj{g l t}{i k:Nat}(h:∀e,cV g l i=Z_ e->e.2.length<=k):(kz g l t i).length<=k+4:=by
 unfold kz;cases a:cV g l i with
 |none=>simp
 |some e=>have:=h e a;simp[di,Vberaf.ints];lia
nonrec def Vk{s p}{room:Nat}(g:mq s)(h:uU s p)(h1:1<=room)(j:room<=60):(vN (bC s room p.belief) (c9 s (bC s room p.belief))).length<=2700:=by
 obtain⟨e,_⟩:=Vh g h [] h1 j;have hm:=e.map g;have c:=Oj g e;have hnr:=(xh g e.bok e.vok e.r1).2.1;have hl:=h.len;unfold vN;split
 .simp
 .rename_i d;have a:(au (c9 s (bC s room p.belief)) 0).isSome=ZY:=by
   cases l:au (c9 s (bC s room p.belief)) 0 with
   |none=>rw[l]at d;simp at d
   |some _=>rfl
  have ok:=(FX hm a pH).len;simp only[aZ];have:=DB (n:=44) (b:=jr (bC s room p.belief) (c9 s (bC s room p.belief)) 0) (f:=kz (bC s room p.belief) (c9 s (bC s room p.belief)) (jr (bC s room p.belief) (c9 s (bC s room p.belief)) 0)) λi _=>Vj (k:=40) λm o=>by obtain⟨q,r,t⟩:=Ra o;have:=c q r m t;lia
  lia
nonrec def WI{s c}(m:qw s)(t:jJ c=ZY):(bu s c).2.length<=4500:=by
 have q:=m.good;have vars:=q.vars;have g:∀(k:bM->ae×List Int),(∀p,s.play=Z_ p->(k p).2.length<=4500)->(jK s k).2.length<=4500:=λk o=>by
  unfold jK;cases h:s.play with
  |none=>simp
  |some p=>exact o p h
 have j:∀(n:Int) (k:bM->G7 rl->qZ->ae×List Int),(∀p,s.play=Z_ p->(k p (bC s n.toNat p.belief) (c9 s (bC s n.toNat p.belief))).2.length<=4500)->(tE s n k).2.length<=4500:=λn k o=>by
  refine g _ λp h=>?_;simp only;split
  .simp
  .exact o p h
 cases c with
 |clear=>simp[bu]
 |var n b=>unfold bu;simp only;split<;>simp
 |doing c e=>
  unfold bu;simp only;split
  .simp
  .split<;>simp
 |goal c=>unfold bu;simp only;split<;>simp
 |see v c=>
  unfold bu;simp only;split
  .simp
  .split<;>simp
 |maybe v a b=>
  unfold bu;simp only;split
  .split
   .simp
   .split<;>simp
  .simp
 |fact n c=>
  unfold bu;simp only;split
  .simp
  .split<;>simp
 |opened n=>
  unfold bu;simp only;split
  .simp
  .split<;>simp
 |play d=>
  refine g _ λp h=>?_;simp only;split
  .simp
  .split<;>simp
 |view=>refine g _ λp h=>?_;have:=Dg s p.now;simp[di,Vberaf.ints];lia
 |belief=>
  refine g _ λp h=>?_;have l:=m.play p h;have:=DB (n:=8) (b:=p.belief) (f:=Vberaf.ints) λv r=>by unfold Vberaf.ints;rwa[ah,(l.vok v r).len]
  have:=l.len;simp only[aZ];lia
 |known=>
  refine g _ λp h=>?_;have:=DB (n:=2) (b:=(bL s.puzzle.sizes.length).filter λi=>p.belief.all λv=>v.getD i 0==p.now.getD i 0) (f:=λi=>Vberaf.ints [i,p.now.getD i 0]) λv r=>by simp[Vberaf.ints]
  have u:=fS (λi=>p.belief.all λv=>v.getD i 0==p.now.getD i 0) (bL s.puzzle.sizes.length);rw[qg]at u;simp only[aZ];lia
 |level n=>exact j n _ λp h=>by simp
 |hint n=>refine j n _ λp h=>?_;simp only;split<;>simp
 |sight=>refine g _ λp h=>?_;simp only;split<;>simp
 |bar f=>refine g _ λp h=>?_;split<;>simp
 |tell f=>
  refine g _ λp h=>?_;simp only;split
  .simp
  .split
   .simp
   .split
    .simp
    .split
     .simp
     .split<;>simp
 |lead n=>
  refine j n _ λp h=>?_;simp only;split
  .simp
  .split<;>simp
 |map n=>exact g _ λp h=>by simp
 |strategy n=>
  obtain⟨room,rfl,r1,r2⟩:=lP (show cJ n 1 60=ZY from t) (by decide);refine j _ _ λp h=>?_;have:=Vk q (m.play p h) (room:=room) (by lia) (by lia);rw[bA];unfold vN at this;split
  .simp
  .rename_i w;rw[i0n w]at this;simp only at this ⊢;exact c6 this (by decide)
 |actual=>refine g _ λp h=>?_;have l:=m.play p h;have:=(l.vok _ l.now).len;simp[di,Vberaf.ints];lia
 |past=>
  refine g _ λp h=>?_;have l:=m.play p h;have:=DB (n:=20) (b:=p.past) (f:=λe=>di (Vberaf.ints e)) λe x=>by have:=l.ents e x;simp[di,Vberaf.ints];lia
  have:=l.past;simp only[aZ];lia
 |purse=>exact g _ λp h=>by simp
nonrec def Vl{s}(a:qw s)(r:List Int):qw (f6 s r).1/\(f6 s r).2.length<=4500:=by
 unfold f6;split
 .exact⟨a,by simp⟩
 .unfold Vberaf.step;split
  .exact⟨a,by simp⟩
  .rename_i c _ b;have b:jJ c=ZY:=by simpa using b
   exact⟨WA a b,WI a b⟩
def OP(s:ae)(a:List (List Int)):ae:=a.foldl (λs r=>(f6 s r).1) s
def Vm(s:ae)(a:List (List Int))(r:List Int):OP s (a++[r])=(f6 (OP s a) r).1:=by unfold OP;rw[gD];rfl
def OF:∀(a b:List (List Int)) (s:ae),gO s (a++b)=gO s a++gO (OP s a) b
 |[],b,s=>rfl
 |r::a,b,s=>by show (f6 s r).2::gO (f6 s r).1 (a++b)=_;rw[OF a b];rfl
def LG(s:ae)(a:List (List Int))(r:List Int):uV s (a++[r])=uV s a++(((f6 (OP s a) r).2.length:Int)::(f6 (OP s a) r).2):=by unfold uV;rw[OF,fG];simp[gO]
def iO.a2u{s U G m b o}(h:iO s U G m)(f:¬Za s.play.isSome G b):iO s U G (bQ m b o):=by have i:G.x≠b:=λe=>f (.inl e.symm);have j:∀a,pZ G.A a->a≠b:=λa g e=>f (.inr (.inl (by rwa[<-e])));refine⟨h.puz.a2u j,h.nd,λe=>by rw[ao i];exact h.no e,λp e=>?_⟩;obtain⟨k,l,c,n⟩:=h.yes p e;have d:∀a,a=G.B.q\/a=G.B.b1\/a=G.B.b2\/a=G.B.b3->a≠b:=λa g r=>f (.inr (.inr ⟨by rw[e];rfl,by rwa[<-r]⟩));refine⟨k,by rwa[ao i],⟨c.good,⟨by rw[k];exact h.puz.a2u j,by rw[ao (d _ (.inl rfl))];exact c.pl.q,by rw[ao (d _ (.inr (.inl rfl)))];exact c.pl.past⟩,c.ca.congr (ao (d _ (.inr (.inr (.inl rfl))))) (ao (d _ (.inr (.inr (.inr rfl))))),c.ul⟩,n⟩
def WJ{l r t:List Int}:E8 (dI (l++(r++t))) (l.length:Int) ((l.length:Int)+(r.length:Int))=dI r:=by
 unfold E8 dI;have a:min ((l.length:Int)).toNat ((l++(r++t)).map D.int).length=l.length:=by simp
 have b:min ((l.length:Int)+(r.length:Int)).toNat ((l++(r++t)).map D.int).length=l.length+r.length:=by simp;lia
 rw[a,b,bU,bU,List.drop_left' (by simp),show l.length+r.length-l.length=r.length by lia,List.take_left' (by simp)]
inductive tq:Prop|mk (a:List (List Int)):A'=[.lst (dI (fV a))]->a.length<=100->(∀r∈a,V6 r)->D' (.lst (dI (uV dc a))) B'->tq
def Qd:dR (L0 a5r a5U iW) Ep tq:=by
 intro ds m Q h;obtain⟨j,rfl,hrs,y,q⟩:=h;dsimp[L0,Ep];intro x Z;refine⟨x,rfl,aS,λA m1 hn=>?_⟩;obtain⟨n1,n2,n3,n4,n5⟩:=hn;intro b z;have B:b≠x:=λe=>by rw[e,n3]at z;cases z
 have C:¬pZ A b:=λe=>by obtain⟨o,h1,_⟩:=n1.at e;rw[z]at h1;cases h1
 have zx:∀a,pZ A a->m a=ZZ:=λa ha=>by
  have h1:=n4 a ha;by_cases e:a=x
  .rwa[e]
  .rw[ao e]at h1;exact h1
 have g:∀a o,m a=Z_ o->m1 a=Z_ o/\a≠x/\¬pZ A a:=λa o d=>by
  have h1:a≠x:=λe=>by rw[e,Z]at d;cases d
  have s:¬pZ A a:=λe=>by rw[zx a e]at d;cases d
  refine⟨?_,h1,s⟩;rwa[n5 a λe=>e.elim h1 s,ao h1]
 have v:m b=ZZ:=by
  cases hm:m b with
  |none=>rfl
  |some o=>rw[(g b o hm).1]at z;cases z
 let M:GA:=⟨x,A,⟨x,x,x,x,A⟩⟩
 have g0:iO dc [] M m1:=⟨n1,n2,λ_=>n3,λp hp=>by cases hp⟩
 have i:∀a,a≠x->¬pZ A a->¬Za Vberaf.start.play.isSome M a:=λa h1 s=>by
  rintro (e|e|⟨e,_⟩)
  .exact h1 e
  .exact s e
  .cases e
 refine⟨λn σ J=>∃(c K:List (List Int)) (U:List (List Nat)) (G:GA) (x4 x5:Option D),n=K.length/\j=c++K/\σ=[Z_ (.lst (dI (fV j))),Z_ (.ref x),Z_ (.ref b),Z_ (.int ((fV c).length:Int)),x4,x5]/\qw (OP dc c)/\iO (OP dc c) U G J/\G.x=x/\U.length<=2500*c.length/\¬Za (OP dc c).play.isSome G b/\J b=Z_ (.lst (dI (uV dc c)))/\(uV dc c).length<=4501*c.length/\∀a o,m a=Z_ o->J a=Z_ o/\¬Za (OP dc c).play.isSome G a,
  ⟨_,[],j,[],M,ZZ,ZZ,rfl,rfl,rfl,qw.start,g0.a2u (i b B C),rfl,by simp,i b B C,aS,by simp[uV,gO],λa o d=>?_⟩,?_⟩
 .obtain⟨h1,s,N⟩:=g a o d;refine⟨?_,i a s N⟩;rw[ao λe=>by rw[e,v]at d;cases d];exact h1
 .rintro n σ J ⟨c,K,U,G,x4,x5,rfl,f,rfl,gi,ga,O,hU,P,u,htl,hk⟩;dsimp[ke];cases K with
  |nil=>
   rw[e9]at f;subst f;have w:decide (((fV j).length:Int)<((fV j).length:Int))=ZX:=by simp
   dsimp[w];exact A7.out u v (λa o d _=>(hk a o d).1) q
  |cons r E=>
   have hr:=y r (by rw[f];simp);have R:fV j=fV c++(0::(r.length:Int)::(r++fV E)):=by rw[f,E_];rfl
   have w:decide (((fV c).length:Int)<((fV j).length:Int))=ZY:=by rw[R];simp;lia
   have S:tL (dI (fV j)) (((fV c).length:Int)+1)=Z_ (.int (r.length:Int)):=by
    have:(((fV c).length:Int)+1)=(((fV c).length+1:Nat):Int):=by lia
    rw[this];refine d9 ?_;unfold dI;rw[R,aR,u_ (by lia),show (fV c).length+1-(fV c).length=1 by lia];rfl
   have T:fV j=(fV c++[0,(r.length:Int)])++(r++fV E):=by rw[R];simp
   have V:(fV c++[0,(r.length:Int)]).length=(fV c).length+2:=by simp
   have F:E8 (dI (fV j)) (((fV c).length:Int)+2) (((fV c).length:Int)+2+(r.length:Int))=dI r:=by
    have:=WJ (l:=fV c++[0,(r.length:Int)]) (r:=r) (t:=fV E);rw[<-T,V]at this;have e2:(((fV c).length+2:Nat):Int)=((fV c).length:Int)+2:=by lia
    rw[e2]at this;exact this
   have h0:(0:Int)<=((fV c).length:Int)+2/\(0:Int)<=((fV c).length:Int)+2+(r.length:Int):=by lia
   have hrl:c.length<=99:=by have:=congrArg xq f;simp at this;lia
   dsimp[w,S,h0,and_self,F];rw[<-O];refine⟨OP dc c,U,G,r,rfl,gi,ga,hr.len,by lia,λm2 G' U' W X hU' fr=>?_⟩;obtain⟨Y,hal⟩:=Vl gi r;have k:=fr b _ u P;have H:(dI (uV dc c)).length<1000000:=by rw[ke];lia
   have I:(dI (uV dc c)++[D.int ((f6 (OP dc c) r).2.length:Int)]).length+(dI (f6 (OP dc c) r).2).length<1000000:=by rw[aK,ke,ke];simp;lia
   dsimp[k.1,ke]at H I ⊢;dsimp[H,I,k.1,cy];have L:OP dc (c++[r])=(f6 (OP dc c) r).1:=Vm _ _ _;refine⟨E.length,by simp,c++[r],E,U',G',Z_ (.int (((fV c).length:Int)+2+(r.length:Int))),Z_ (.lst (dI (f6 (OP dc c) r).2)),rfl,by rw[f];simp,?_,by rwa[L],by rw[L];exact X.a2u k.2,W,?_,by rw[L];exact k.2,?_,?_,λa o d=>?_⟩
   .have:(((fV (c++[r])).length:Nat):Int)=((fV c).length:Int)+2+(r.length:Int):=by
     rw[E_];simp[fV];lia
    rw[this]
   .rw[aK];simp;lia
   .rw[LG];unfold dI;simp
   .rw[LG,aK,aK,aZ];simp;lia
   .obtain⟨h1,s⟩:=hk a o d;obtain⟨N,h4⟩:=fr a o h1 s;refine⟨?_,by rwa[L]⟩;rwa[ao λe=>by rw[e,v]at d;cases d]
structure jb(P:bF)(w:cD)(K:ab)(mg:Str->Option aq):Prop extends a1Q P w K mg where
 a3R:ek K mg "is_between" wq CT
 a4A:ek K mg "is_list" Ec KR
 a3D:ek K mg "arguments_of" sj yQ
 a4G:ek K mg "threes" H_ NQ
 a2L:ek K mg "is_three_in_range" lY ra
 a2U:ek K mg "is_list_in_range" mQ sh
 a2r:ek K mg "is_argument_in_range" k7 nQ
 a3C:ek K mg "are_in_range" sr yP
 a4n:ek K mg "is_there" BH HY
 a3d:ek K mg "are_needs_there" nX tY
 a3f:ek K mg "is_effect_there" nZ tZ
 a2M:ek K mg "are_effects_there" m5 r9
 a2w:ek K mg "tell_variable" qG mD
 a3k:ek K mg "tell_doing" wu rC
 a3t:ek K mg "tell_goal" yT tV
 a3s:ek K mg "tell_view" yV tW
 a3u:ek K mg "tell_span" yX tX
 a2z:ek K mg "tell_new_fact" qI mB
 a2W:ek K mg "answer_on_puzzle" mT sg
 a4N:S6 K mg "Puzzle" "Puzzle.__init__" ur iK
 a3L:ek K mg "is_need_met" uv B7
 a3x:ek K mg "are_needs_met" qK xH
 a4L:ek K mg "is_end" Ie NP
 a2q:ek K mg "values_behind_effect" k9 nP
 a2A:ek K mg "are_values_in_range" kJ o_
 a3A:ek K mg "state_behind" sA yN
 a4B:ek K mg "is_seen" Eg KQ
 a3B:ek K mg "what_is_seen" sD yO
 a3l:ek K mg "count_of_starts" o4 tU
 a2B:ek K mg "starts_within_spans" kL p0
 a2n:ek K mg "beginnings_that_may_be" jl ml
 a5h:S6 K mg "Play" "Play.__init__" z7 j_
 a4z:ek K mg "seen_in" Ei KP
 a4Y:ek K mg "trial" Me QT
 a4k:ek K mg "trials_in" z9 FA
 a2G:ek K mg "beliefs_by_noticed" lj qk
 a3o:ek K mg "beliefs_behind" pj vt
 a4j:ek K mg "try_doing" zc Fx
 a3M:ek K mg "states_left" ux B6
 a4P:ek K mg "bar_of" Ih NO
 a4d:ek K mg "tell_fact" ze Fy
 a4b:S6 K mg "BeliefMap" "BeliefMap.__init__" pq cK
 a3y:ek K mg "number_on_map" qM xG
 a4c:ek K mg "ways_from" zg Fv
 a4F:ek K mg "explore" Ek KO
 a3H:ek K mg "is_all_ends" uA B5
 a3G:ek K mg "has_sure_way" sG yM
 a4f:ek K mg "levels_of" zj Fw
 a3q:ek K mg "leads_one_down" pz vq
 a4E:ek K mg "hint_at" Em KN
 a3K:ek K mg "strategy_on" uC B4
 a3S:ek K mg "level_left" wB CS
 a3E:ek K mg "weakest_fact" sI yL
 a2Z:ek K mg "states_in_reach" o9 tT
 a3w:ek K mg "states_before" qO xF
 a2Y:ek K mg "distances_to_end" mV sf
 a4q:ek K mg "sight_of" BM HX
 a3W:ek K mg "with_count" wD CQ
 a2N:ek K mg "answer_play" uE pU
 a2R:ek K mg "answer_view" uG pS
 a2y:ek K mg "answer_belief" qQ mz
 a2C:ek K mg "answer_known" sM nM
 a2I:ek K mg "answer_level" sO nN
 a2S:ek K mg "answer_hint" uI pT
 a2E:ek K mg "answer_sight" sR nO
 a3c:ek K mg "answer_bar" wG rA
 a2O:ek K mg "answer_tell" uK pQ
 a2P:ek K mg "answer_lead" uM pR
 a3b:ek K mg "answer_map" wI rB
 a3n:ek K mg "strategy_entry" pC vp
 a2j:ek K mg "answer_strategy" oj kT
 a2x:ek K mg "answer_actual" qT my
 a2Q:ek K mg "answer_past" uO pP
 a2J:ek K mg "answer_purse" sV nL
 a3r:ek K mg "answer_on_play" pE vo
 a5a:S6 K mg "Game" "Game.__init__" zw iW
 a3Q:ek K mg "clear_game" wK CO
 a3F:ek K mg "build_puzzle" sX yK
 a3P:ek K mg "start_play" wM CP
 a4i:ek K mg "answer_to" zB Fu
 a4C:ek K mg "answers" A9 KM
section
variable {P:bF} {w:cD} {K:ab} {mg:Str->Option aq} {base:cQ}
def mw{x}{k j n:Nat}{sp st f}(g:jW P w K mg base k x n sp)(h:ek K mg x st f)(b:k<=j):∃a ps,oU P w K mg base Kr j f a ps (l9 K sp)/\eJ K (.ref f)=ZY/\oY K a ps []:=by obtain⟨f',a,ps,h1,c,d,i,_⟩:=g.ex;obtain⟨_,e,_⟩:=h.ex;rw[e]at h1;cases h1;exact⟨a,ps,c.mono b,d,i⟩
def Gy:∀ds m Q,a4U ds m Q->a4U ds m λd m'=>d=.non/\Q d m':=λds m Q ⟨x,e,h,q⟩=>⟨x,e,h,λA m' a b c d f=>⟨rfl,q A m' a b c d f⟩⟩
def K0:∀ds m Q,a5r ds m Q->a5r ds m λd m'=>d=.non/\Q d m':=λds m Q ⟨x,e,h,q⟩=>⟨x,e,h,λA m' a=>⟨rfl,q A m' a⟩⟩
def K3:∀ds m Q,a5x ds m Q->a5x ds m λd m'=>d=.non/\Q d m':=λds m Q ⟨s,A,x,b,n,e,h1,k,q⟩=>⟨s,A,x,b,n,e,h1,k,λB m' a b c d f g h i j=>⟨rfl,q B m' a b c d f g h i j⟩⟩
def C7:∀ds m Q,a5w ds m Q->a5w ds m λd m'=>d=.non/\Q d m':=λds m Q ⟨x,room,e,h,q⟩=>⟨x,room,e,h,λC m' a b c d f g=>⟨rfl,q C m' a b c d f g⟩⟩
variable (M:jb P w K mg)
set_option hygiene false
local macro_rules(kind:=«term[_]»)|s=>z'u (s[1].getNumArgs=1&&s[1][0].isNatLit?.isSome) (Z' s[1] "v3 0")
local macro_rules(kind:=Lean.Parser.Term.tuple)|s=>z'u (s[1].getNumArgs=0) (Z'' "aw(aO(c7(a8 0 ai" (Z' s "eD aC"))
local macro_rules|`(#[$a,*])=>do a.getElems.foldrM (λx y=>`(a8 $x $(⟨y⟩))) (<-`(ai))
local macro_rules(kind:=«term_∨_»)|s=>Z' s "ag 0 2"
local macro_rules(kind:=«term_∧_»)|s=>Z' s "bK 0 2 bg"
local macro_rules(kind:=«term_^_»)|s=>Z' s "cM a 0 2"
local macro_rules(kind:=«term_*_»)|s=>do Z' (s.setArg 1 (<-Z' s "0 M")) "gM 1 a 2"
local macro_rules(kind:=«term_+_»)|s=>Z' s "dE eR eS 0 2"
local macro_rules(kind:=«term_-_»)|s=>Z' s "dE pd lH 0 2"
local macro_rules(kind:=«term-_»)|s=>Z' s "eQ M.a0v gx(a8 1 ai"
local macro_rules(kind:=«term_≥_»)|s=>Z' s "bY r6 de 0 2 rfl"
local macro_rules(kind:=«term_<_»)|s=>Z' s "bY xC de 0 2 rfl"
local macro_rules(kind:=«term_>_»)|s=>Z' s "bY Fj de 0 2 rfl"
local macro_rules(kind:=«term_==_»)|s=>do Z' (s.setArg 1 (<-Z' s "ik(fj a")) "bY 1 il 0 2 rfl"
local macro_rules(kind:=«term_/_»)|s=>Z' s "dm(da 0 2"
local macro_rules|`($a%$b)=>`(eB (by decide) $a $b)
local macro_rules|`($a.1)=>`(fl $a)
local macro_rules(kind:=Lean.Parser.Term.tuple)|s=>z'u (s[1][2].getNumArgs=5) (Z' (Lean.mkNullNode (s[1][2].getArgs.push s[1][0])) "jW P w K mg base 5 0 2 4")
def jn:(1,"is_between",3,a3O):=kF M.a3R JL (λa=>aw (aO (QC (jc Tf de [1] [0] rfl) (Ha (jc Tf de [0] [2] rfl))))) JP
def Ji:(1,"is_list",1,a3m):=kF M.a4A Pw (λa=>aw (aO (U1 (jc (ik (fj a)) il [0] M0 rfl) (Ha (jc (ik (fj a)) il [0] M0 rfl))))) PD
def Gz:(2,"arguments_of",1,a5O):=kF M.a3D g_ (λa=>Ku.pt (yE (-[0]==aC) (tP (ij (dq (jn*#[[0]^aC,aC,-ng M.a3i gx-aC])))))/\aw (aO iQ)\/s3 1 g_ (fk ai)\/s3 2 g_ aC\/oV (dr (ng M.a3i gx^[0]^aC)) (g3 3 g_) ([2]>=-[0]/\aw (aO iQ)\/aw (bK (dq (Ji*#[[3]])) (s3 4 g_ ([2]+aC+[0]^[2])\/ij (dq (jn*#[[4],[2]+aC,-[0]]))/\aw (aO iQ)\/[1]/E9 [0] ([2]+aC) [4]\/aw (s3 2 g_ [4])) ([1]/[0]^[2]\/aw (s3 2 g_ ([2]+aC)))))\/bY M8 M9 [2] (-[0]) rfl/\aw (aO iQ)\/aw (aO [1])) Gg
def rS:(1,"threes",1,a1U):=kF M.a4G Ee (λa=>aw (aO (nJ M.a1W rfl gx #[QU (own:=[("at",1)]) Ee (Ph gx M.a3h aC (-[0])) (JK 1 Ee) ic (nJ M.a1W rfl gy #[E9 [0] [1] ([1]+aC)])]))) Sd
def zX:(2,"is_three_in_range",2,a5F):=kF M.a2L yR (λa=>Ku.pt (yE (ij (dq (jn*#[[1]^aC,aC,aC]))) (tP (ij (dq (jn*#[[1]^aC,aC,aC])))))/\aw (aO jZ)\/Ku.pt (G_ ([0]==M0) (CD ([1]^aC>=aC)))/\aw (aO (jn*#[[1]^aC,aC,aC]))\/aw (aO (jn*#[[1]^aC,eD aC,aC]))) zD
def AO:(3,"is_list_in_range",2,a5B):=kF M.a2U l_ (λa=>Ku.pt (yE (-[1]>ng M.a2e gx) (tP (bY M8 M9 (dE XI W9 (-[1]) aC) aC rfl)))/\aw (aO jZ)\/aw (aO (KL M.a3v rfl gx #[QU (own:=[("three",2)]) l_ (dr (rS*#[[1]])) (JK 2 l_) ic (zX*#[[0],[2]])]))) AI
def vS:(4,"is_argument_in_range",2,a6b):=kF M.a2r vz (λa=>dq (Ji*#[[0]])/\aw (aO (AO*#[[0],[1]]))\/aw (aO (jn*#[[1],HZ M.a4O gx [0]^aC,HZ M.a4O gx [0]^aC]))) vH
def GB:(5,"are_in_range",2,a6k):=kF M.a3C qF (λa=>oV (QI gx M.a4w (ng M.a3i gx^[0]) [1]) (lW rfl (d8 (g3 2 qF) (d8 (g3 3 qF) jz))) (aw (ij (dq (vS*#[[2],[3]]))/\aw (aO jZ)))\/[0]==ng M.a4s gx/\aw (aO (jc xC de ([1]^aC) ([1]^aC) rfl))\/[0]==ng M.a3T gx/\aw (aO (jc Tf de ([1]^aC) ([1]^aC) rfl))\/aw (aO jZ)) Gh
def qx:(1,"is_there",2,a3U):=kF M.a4n NS (λa=>aw (aO (jc xC de [1] (-[0].1) rfl))) N_
def kn:(2,"are_needs_there",2,a3Z):=kF M.a3d mS (λa=>aw (aO (KL M.a3v rfl gx #[QU (own:=[("need",2)]) mS (dr [1]) (JK 2 mS) ic (qx*#[[0],[2]^aC])]))) BO
def C8:(2,"is_effect_there",2,a5R):=kF M.a3f BJ (λa=>ij (dq (qx*#[[0],[1]^aC]))/\aw (aO jZ)\/aw (aO (U1 (jc xC de ([1]^aC) aC rfl) (Ha (qx*#[[0],[1]^aC]))))) BP
def zY:(3,"are_effects_there",2,a5H):=kF M.a2M lh (λa=>aw (aO (KL M.a3v rfl gx #[QU (own:=[("effect",2)]) lh (dr [1]) (JK 2 lh) ic (C8*#[[0],[2]])]))) zJ
def F6:(1,"tell_variable",2,lM):=kF M.a2w Ef (λa=>-[0].1>=ng M.a2c gx/\()\/[0].1/[1]^aC\/[0].1/[1]^aC\/[0].1/gA #[[1]^aC,[1]^aC]\/aw (aO (c7 #[-[0].1-aC]))) EM
def K4:(4,"tell_doing",2,p_):=kF M.a3k uq (λa=>s3 2 uq (rS*#[[1]^aC])\/s3 3 uq (rS*#[[1]^aC])\/Ku.pt (yE (ij (dq (kn*#[[0],[2]]))) (tP (ij (dq (zY*#[[0],[3]])))))/\()\/ -[0].1>=ng M.a2l gx/\()\/[0].1/gA #[[2],[3]]\/aw (aO (c7 #[-[0].1-aC]))) JW
def MW:(3,"tell_goal",2,rH):=kF M.a3t CW (λa=>s3 2 CW (rS*#[[1]^aC])\/ij (dq (kn*#[[0],[2]]))/\()\/[0]% [2]\/aw (aO (c7 #[aC]))) MF
def MX:(3,"tell_view",2,rJ):=kF M.a3s CY (λa=>s3 2 CY (rS*#[[1]^aC])\/Ku.pt (yE (ij (dq (qx*#[[0],[1]^aC]))) (tP (ij (dq (kn*#[[0],[2]])))))/\()\/ -[0].1>=ng M.a2s gx/\()\/[0].1/gA #[[1]^aC,[2]]\/aw (aO (c7 #[aC]))) MG
def MY:(2,"tell_span",2,rK):=kF M.a3u rE (λa=>s3 2 rE ([1]^aC)\/s3 3 rE ([1]^aC)\/s3 4 rE ([1]^aC)\/ij (dq (qx*#[[0],[2]]))/\()\/[4]>=[0].1^[2]/\()\/Ku.pt (yE ([0].1^[2]<[3]) (tP ([0].1^[2]>[4])))/\()\/vm [0].1 [2] (gA #[[3],[4]])\/aw (aO (c7 #[aC]))) MI
def F7:(3,"tell_new_fact",2,lN):=kF M.a2z vA (λa=>s3 2 vA (rS*#[[1]^aC])\/ij (dq (kn*#[[0],[2]]))/\()\/ -[0].1>=ng M.a2v gx/\()\/[0].1/gA #[[1]^aC,[2]]\/aw (aO (c7 #[-[0].1-aC]))) EN
def AQ:∀f sp,t7 f sp->∃a ps,And (oU P w K mg base Kr 4 f a ps (l9 K sp)) (And (eJ K (.ref f)=ZY) (oY K a ps [])):=(by
 rintro f sp ⟨n,h⟩;unfold xk at h;split at h<;>cases h
 .exact mw (F6 M) M.a2w (by decide)
 .exact mw (K4 M) M.a3k (by decide)
 .exact mw (MW M) M.a3t (by decide)
 .exact mw (MX M) M.a3s (by decide)
 .exact mw (MY M) M.a3u (by decide)
 .exact mw (F7 M) M.a2z (by decide))
def AR:(5,"answer_on_puzzle",3,a5m):=kF M.a2W AH (λa=>aw (aO (KJ (hm a) (AQ M) (ng M.a2g gx^([1]-ng M.a4s gx)) #[[0],[2]]))) AK
def zZ:Yw P w K mg base 1 "Puzzle" iK a4U:=a0A M.a4N Ib (λa=>[0]%fk ai\/[0]%fk ai\/[0]%fk ai\/[0]%fk ai\/[0]%gA ai\/[0]%fk ai\/aw ([0]%fk ai)) IW Gy
def Jj:(1,"is_need_met",3,a5E):=kF M.a3L Ic (λa=>[0]==aC/\aw (aO (jc (ik (fj a)) il [1] [2] rfl))\/[0]==aC/\aw (aO (jc M8 M9 [1] [2] rfl))\/[0]==aC/\aw (aO (jc xC de [1] [2] rfl))\/aw (aO (jc r6 de [1] [2] rfl))) Iq
def jS:(2,"are_needs_met",2,a2d):=kF M.a3x lI (λa=>oV (dr [0]) (lW rfl (d8 (g3 2 lI) (d8 (g3 3 lI) (d8 (g3 4 lI) jz)))) (aw (ij (dq (Jj*#[[3],[1]^[2],[4]]))/\aw (aO jZ)))\/aw (aO jZ)) Ew
def LH:(3,"is_end",2,a5q):=kF M.a4L S7 (λa=>aw (aO (jS*#[[0].1,[1]]))) Sf
def vT:(1,"values_behind_effect",2,a5M):=kF M.a2q fT (λa=>s3 2 fT ([1]^aC)\/s3 3 fT ([1]^aC)\/s3 4 fT ([1]^aC)\/s3 5 fT (Wh M.a2V gx #[[0]])\/bK ([3]==aC) (aw (vm [5] [2] [4])) (aw (bK ([3]==aC) (aw (vm [5] [2] ([0]^[2]+[4]))) (aw (vm [5] [2] ([0]^[4])))))\/[3]==aC/\aw (vm [5] [4] ([0]^[2]))\/aw (aO [5])) vJ
def xm:(1,"are_values_in_range",2,a5Z):=kF M.a2A kb (λa=>oV (QI gx M.a4w [0] [1]) (lW rfl (d8 (g3 2 kb) (d8 (g3 3 kb) jz))) (aw (Ku.pt (yE ([3]<aC) (tP ([3]>=[2])))/\aw (aO jZ)))\/aw (aO jZ)) wQ
def GC:(3,"state_behind",3,a5Y):=kF M.a3A mE (λa=>ij (dq (jS*#[[1]^aC,[2]]))/\aw (aO iQ)\/s3 3 mE (Mc M.a2V gx #[[2]])\/oV (dr ([1]^aC)) (g3 4 mE) (s3 3 mE (vT*#[[3],[4]])\/aw (ij (dq (xm*#[[0].1,[3]]))/\aw (aO iQ)))\/aw (aO (nJ M.a1W rfl gx #[[3]]))) Gi
def Qe:(3,"is_seen",3,a5V):=kF M.a4B BK (λa=>oV (dr [0].1) (lW rfl (d8 (g3 3 BK) (d8 (g3 4 BK) jz))) (aw (Ku.pt (G_ ([3]==[1]) (CD (dq (jS*#[[4],[2]]))))/\aw (aO jZ)))\/aw (aO jZ)) PH
def qX:(4,"what_is_seen",2,a5c):=kF M.a3B mF (λa=>s3 2 mF (fk ai)\/oV (yG gx M.a1V [1]) (lW rfl (d8 (g3 3 mF) (d8 (g3 4 mF) jz))) (aw (bK (dq (Qe*#[[0],[3],[1]])) ([2]/aC\/aw ([2]/[4])) (aw ([2]/aC))))\/aw (aO (nJ M.a1W rfl gx #[[2]]))) Gj
def C9:(1,"count_of_starts",1,a6h):=kF M.a3l iL (λa=>s3 1 iL aC\/oV (dr [0].1) (lW rfl (d8 (g3 2 iL) (d8 (g3 3 iL) jz))) (aw (s3 1 iL (dE XH W8 [1] ([3]-[2]+aC))))\/aw (aO [1])) BQ
def xn:(1,"starts_within_spans",1,a6g):=kF M.a2B dF (λa=>s3 1 dF (c7 #[gA ai])\/oV (dr [0].1) (lW rfl (d8 (g3 2 dF) (d8 (g3 3 dF) jz))) (s3 4 dF (fk ai)\/oV (dr [1]) (g3 5 dF) (aw (oV (Pg gx M.a3h [2] ([3]+aC)) (g3 6 dF) (aw ([4]/([5]+gA #[[6]])))))\/aw (s3 1 dF [4]))\/aw (aO [1])) wV
def tG:(5,"beginnings_that_may_be",1,a5K):=kF M.a2n gB (λa=>s3 1 gB (qX*#[[0],nJ M.a1W rfl gx #[[0].1]])\/aw (aO (nJ M.a1W rfl gx #[QU (own:=[("state",2)]) gB (dr (xn*#[[0]])) (JK 2 gB) (CI (qX*#[[0],[2]]==[1])) [2]]))) tF
def MZ:Yw P w K mg base 1 "Play" j_ a5x:=a0A M.a5h Md (λa=>[0]% [1]\/[0]%nJ M.a1W rfl gx #[[1].1]\/[0]% [2]\/[0]% [3]\/[0]%fk ai\/[0]%vj\/aw ([0]%vj)) MJ K3
def Ca:(5,"seen_in",2,a4Z):=kF M.a4z Px (λa=>bY (nj (fj a)) wj [1] [0].1 rfl/\aw (vn (fj a) [0].1 [1] (qX*#[[0].1,[1]]))\/aw (aO ([0].1^[1]))) PK
def Vn:(6,"trial",3,a0w):=kF M.a4Y NU (λa=>s3 3 NU (GC*#[[0].1,[2],[1]])\/nF [3]/\aw (aO (gA #[gA #[aC,Ca*#[[0],[1]]],[1]]))\/aw (aO (gA #[gA #[aC,Ca*#[[0],[3]]],[3]]))) UG
def oJ:(7,"trials_in",2,a2b):=kF M.a4k wy (λa=>bY (nj (fj a)) wj [1] [0].1 rfl/\aw (vn (fj a) [0].1 [1] (QU (own:=[("doing",2)]) wy (dr (fl [0].1)) (JK 2 wy) ic (Vn*#[[0],[1],[2]])))\/aw (aO ([0].1^[1]))) Mq
def p8:(8,"beliefs_by_noticed",3,a5e):=kF M.a2G gE (λa=>s3 3 gE vj\/oV (dr [1]) (g3 4 gE) (s3 5 gE ((oJ*#[[0],[4]])^[2])\/s3 6 gE (yJ (fj a) [3] ([5]^aC) vj)\/aw (vn (fj a) [6] ([5]^aC) jZ))\/aw (aO [3])) yg
def DC:(9,"beliefs_behind",3,a5S):=kF M.a3o gV (λa=>s3 3 gV (p8*#[[0],[1],[2]])\/ij (dq (ZT M.a4R rfl gx #[QU (own:=[("noticed",5)]) gV (dr [3]) (JK 5 gV) ic (jc (ik (fj a)) il ([5]^aC) aC rfl)]))/\aw (aO (c7 ai))\/aw (aO (QU (own:=[("group",4)]) gV (Pj [3]) (JK 4 gV) ic (nJ M.a1W rfl gy #[[4]])))) De
def M_:(9,"try_doing",2,a5I):=kF M.a4j wz (λa=>s3 2 wz ((oJ*#[[0],[0].1])^[1])\/s3 3 wz ([2]^aC)\/[0]%nJ M.a1W rfl gx #[(p8*#[[0],[0].1,[1]])^[3]]\/[0]% [2]^aC\/[0].1/(gA #[aC,[1],[3]^aC]+[3]^aC)\/aw (aO ([3]^aC))) Mu
def oK:(3,"states_left",2,a4t):=kF M.a3M o6 (λa=>s3 2 o6 ((fl [0].1^[1])^aC)\/aw (aO (nJ M.a1W rfl gx #[QU (own:=[("state",3)]) o6 (dr [0].1) (JK 3 o6) (CI (dq (jS*#[[2],[3]]))) [3]]))) IC
def F8:(4,"bar_of",2,a4u):=kF M.a4P KY (λa=>s3 2 KY (fl [0].1^[1])\/ij (dq (jS*#[[2]^aC,[0].1]))/\aw (aO aC)\/ -(oK*#[[0],[1]])==-[0].1/\aw (aO aC)\/[2]^aC>[0].1/\aw (aO aC)\/aw (aO aC)) Sj
def N0:(4,"tell_fact",2,a5P):=kF M.a4d Mg (λa=>[0]%(oK*#[[0],[1]])\/[0]%([0].1-(fl [0].1^[1])^aC)\/aw ([0].1/gA #[aC,[1]])) Mt
def DD:Yw P w K mg base 1 "BeliefMap" cK a5w:=a0A M.a4b CZ (λa=>[0]% [1]\/[0]%jZ\/[0]%fk ai\/[0]%fk ai\/aw ([0]%vj)) Di C7
def vU:(1,"number_on_map",2,a5j):=kF M.a3y vD (λa=>s3 2 vD (nJ M.a1W rfl gx #[NN M.a3a gx #[[1]]])\/bY (Yq (fj a)) wj [2] [0].1 rfl/\aw (aO ([0].1^[2]))\/ -[0].1>=[0].1/\([0]%jZ\/aw (aO iQ))\/vn (fj a) [0].1 [2] (-[0].1)\/[0].1/[1]\/aw (aO ([0].1^[2]))) EF
def N1:(10,"ways_from",3,a6j):=kF M.a4c o7 (λa=>s3 3 o7 (fk ai)\/oV (Pf gx M.a3h (-fl [0].1)) (g3 4 o7) ((A5 (i:=5) (T:=(.one 6)) (own:=[("led",6)]) rfl o7.nd rfl kx rfl (dr (DC*#[[0],[2],[4]])) bx (by decide) (λ_ _ _ _ _=>(JK 6 o7)) (λ_ _ _ _ _=>ic) λ_ _ _ _ _=>(gM (vU M) a (a8 (v3 1) (a8 (v3 6) ai))))\/aw (Ku.pt (G_ (-[5]>aC) (CD (bY (nj (fj a)) wj iQ [5] rfl)))/\aw ([3]/gA #[[4],[5]])))\/aw (aO [3])) Mw
def pJ:(11,"explore",3,a1S):=kF M.a4F wA (λa=>s3 3 wA (a1P (DD M) (hm a) gx #[[2]])\/dm (vU*#[[3],[1]])\/s3 4 wA aC\/Z4 ([4]< -[3].1) ([3].1/(N1*#[[0],[3],[3].1^[4]])\/aw (s3 4 wA ([4]+aC)))\/aw (aO [3])) PQ
def Jk:(4,"is_all_ends",2,a5G):=kF M.a3H sF (λa=>aw (aO (KL M.a3v rfl gx #[QU (own:=[("state",2)]) sF (dr [1]) (JK 2 sF) ic (LH*#[[0].1,[2]])]))) IK
def GD:(1,"has_sure_way",2,a5J):=kF M.a3G ky (λa=>oV (dr [0]) (lW rfl (d8 (g3 2 ky) (d8 (g3 3 ky) jz))) (aw (dq (KL M.a3v rfl gx #[QU (own:=[("number",4)]) ky (dr [3]) (JK 4 ky) ic (U2 ([1]^[4]))])/\aw (aO jZ)))\/aw (aO jZ)) Gk
def oM:(5,"levels_of",2,a1Z):=kF M.a4f fI (λa=>s3 2 fI (W7 (T:=(.one 7)) (own:=[("belief",7)]) rfl fI.nd (dr [1].1) bx (by decide) (λ_ _ _ _ _=>(JK 7 fI)) (λ_ _ _ _ _=>ic) λ_ _ _ _ _=>(E5 (dq (gM (Jk M) a (a8 (v3 0) (a8 (v3 7) ai)))) aC iQ))\/s3 3 fI aC\/s3 4 fI jZ\/Z4 (dq [4]) (s3 3 fI ([3]+aC)\/(A5 (i:=5) (T:=(.two 6 8)) (own:=[("number",6),("ways",8)]) rfl fI.nd rfl kx rfl (yG gx M.a1V [1].1) bx (by decide) (λ_ _ _ _ _=>(lW rfl (d8 (JK 6 fI) (d8 (JK 8 fI) jz)))) (λ_ _ _ _ _=>(CI (Ku.pt (G_ (nF (cM a (v3 2) (v3 6))) (CD (dq (gM (GD M) a (a8 (v3 8) (a8 (v3 2) ai))))))))) λ_ _ _ _ _=>(v3 6))\/oV (dr [5]) (g3 6 fI) (aw (vm [2] [6] [3]))\/aw (s3 4 fI (jc Fj de (-[5]) aC rfl)))\/aw (aO [2])) MC
def DE:(1,"leads_one_down",3,a5Q):=kF M.a3q o8 (λa=>(A5 (i:=3) (T:=(.one 4)) (own:=[("number",4)]) rfl o8.nd rfl kx rfl (dr [0]) bx (by decide) (λ_ _ _ _ _=>(JK 4 o8)) (λ_ _ _ _ _=>ic) λ_ _ _ _ _=>(cM a (v3 1) (v3 4)))\/aw (aO (QC (jc (nj (fj a)) wj iQ [3] rfl) (Ha (jc (ik (fj a)) il (ZV M.a4H rfl gx #[[3]]) ([2]-aC) rfl))))) Dk
def Cb:(2,"hint_at",3,a4y):=kF M.a4E BL (λa=>oV (dr ([0].1^[2])) (lW rfl (d8 (g3 3 BL) (d8 (g3 4 BL) jz))) (aw (dq (DE*#[[4],[1],[1]^[2]])/\aw (aO (gA #[[3],[4]]))))\/aw (aO iQ)) PV
def Jl:(3,"strategy_on",2,a5W):=kF M.a3K jN (λa=>s3 2 jN (fk #[aC])\/s3 3 jN aC\/Z4 ([3]< -[2]) (s3 4 jN (Cb*#[[0],[1],[2]^[3]])\/HJ [4]/\aw (oV (dr ([4]^aC)) (g3 5 jN) (aw (bY (nj (fj a)) wj [5] [2] rfl/\aw ([2]/[5]))))\/aw (s3 3 jN ([3]+aC)))\/aw (aO [2])) IY
def K5:(12,"level_left",3,a6i):=kF M.a3S Bd (λa=>s3 3 Bd (pJ*#[[0],[1],[2]])\/dq [3].1/\aw (aO iQ)\/aw (aO ((oM*#[[0],[3]])^aC))) JT
def GE:(13,"weakest_fact",2,a5X):=kF M.a3E gs (λa=>s3 2 gs (fk ai)\/oV (yG gx M.a1V (fl [0].1)) (lW rfl (d8 (g3 3 gs) (d8 (g3 4 gs) jz))) (aw (F8*#[[0],[3]]==aC/\aw ([2]/gA #[aC- -(oK*#[[0],[3]]),[4]^aC,[3]])))\/oV (dr (NN M.a3a gx #[[2]])) (lW rfl (d8 (g3 5 gs) (d8 (g3 6 gs) (d8 (g3 3 gs) jz)))) (s3 7 gs (K5*#[[0],oK*#[[0],[3]],[1]])\/aw (HJ [7]/\aw (aO (gA #[[3],aC-[5],[6],[7]]))))\/aw (aO iQ)) Gw
def Cc:(8,"states_in_reach",1,a6c):=kF M.a2Z eU (λa=>s3 1 eU (fk #[[0].1])\/s3 2 eU (S4 (fj a) [0].1 jZ)\/s3 3 eU aC\/Z4 ([3]< -[1]) (s3 4 eU (oJ*#[[0],[1]^[3]])\/oV (dr [4]) (lW rfl (d8 (g3 5 eU) (d8 (g3 6 eU) jz))) (aw (bY (nj (fj a)) wj [6] [2] rfl/\(vn (fj a) [2] [6] jZ\/aw ([1]/[6]))))\/ -[1]>ng M.a2m gx/\aw (aO iQ)\/aw (s3 3 eU ([3]+aC)))\/aw (aO [1])) C5
def F9:(8,"states_before",2,a6e):=kF M.a3w jO (λa=>s3 2 jO vj\/oV (dr [1]) (g3 3 jO) (aw (oV (dr (oJ*#[[0],[3]])) (lW rfl (d8 (g3 4 jO) (d8 (g3 5 jO) jz))) (aw (yJ (fj a) [2] [5] (fk ai)/[3]))))\/aw (aO [2])) F0
def AS:(9,"distances_to_end",2,a6a):=kF M.a2Y cW (λa=>s3 2 cW (F9*#[[0],[1]])\/(Pl (i:=3) (T:=(.one 8)) (own:=[("state",8)]) rfl cW.nd rfl kx rfl (dr [1]) bx (by decide) (λ_ _ _ _ _=>(JK 8 cW)) (λ_ _ _ _ _=>(CI (dq (gM (LH M) a (a8 (fl (v3 0)) (a8 (v3 8) ai)))))) λ_ _ _ _ _=>(v3 8))\/s3 4 cW (Yy M.a4p rfl (ZW a) gx #[QU (own:=[("state",8)]) cW (dr [3]) (JK 8 cW) ic (gA #[[8],aC])])\/s3 5 cW aC\/Z4 ([5]< -[3]) (s3 6 cW ([4]^[3]^[5]+aC)\/s3 7 cW (Us (fj a) [2] ([3]^[5]) (c7 ai) ⟨rfl,rfl,rfl,rfl⟩)\/oV (dr [7]) (g3 8 cW) (aw (bY (nj (fj a)) wj [8] [4] rfl/\(vn (fj a) [4] [8] [6]\/aw ([3]/[8]))))\/aw (s3 5 cW ([5]+aC)))\/aw (aO [4])) AN
def OG:(10,"sight_of",1,a6d):=kF M.a4q nk (λa=>s3 1 nk (Cc*#[[0]])\/nF [1]/\aw (aO iQ)\/s3 2 nk (AS*#[[0],[1]])\/bY (nj (fj a)) wj [0].1 [2] rfl/\aw (aO (gA #[eD aC,aC]))\/s3 3 nk ([2]^[0].1)\/oV (yG gx M.a1V (oJ*#[[0],[0].1])) (lW rfl (d8 (g3 4 nk) (d8 (g3 5 nk) jz))) (aw (Ur (fj a) [2] ([5]^aC) ⟨rfl,rfl,rfl,rfl⟩==[3]-aC/\aw (aO (gA #[[3],[4]+aC]))))\/aw (aO (gA #[[3],aC]))) OE
def q0:(1,"with_count",1,a4a):=kF M.a3W JM (λa=>aw (aO (c7 #[-[0]]+Mc M.a2V gx #[[0]]))) JR
def Jm:(10,"answer_play",2,oG):=kF M.a2N zo (λa=>[1]^aC>=-fl [0].1/\()\/ -[0].1>=ng M.a2k gx/\()\/s3 2 zo (M_*#[[0],[1]^aC])\/aw (aO (c7 #[[2],-[0].1]))) IU
def Jn:(6,"answer_view",2,oE):=kF M.a2R Ik (λa=>aw (aO (q0*#[Ca*#[[0],[0].1]]))) IS
def Fb:(1,"answer_belief",2,lL):=kF M.a2y pB (λa=>s3 2 pB (fk #[-[0].1])\/oV (dr [0].1) (g3 3 pB) (aw (dm (wo [2] [3])))\/aw (aO [2])) EL
def GF:(1,"answer_known",2,mK):=kF M.a2C iZ (λa=>s3 2 iZ (fk ai)\/oV (yG gx M.a1V ([0].1^aC)) (lW rfl (d8 (g3 3 iZ) (d8 (g3 4 iZ) jz))) (aw (dq (KL M.a3v rfl gx #[QU (own:=[("state",5)]) iZ (dr [0].1) (JK 5 iZ) ic (jc (ik (fj a)) il ([5]^[3]) [4] rfl)])/\([2]/[3]\/aw ([2]/[4]))))\/aw (aO (c7 #[dE VD Uh (-[2]) aC]+[2]))) Gs
def GG:(12,"answer_level",2,mH):=kF M.a2I qS (λa=>s3 2 qS (pJ*#[[0],[0].1,[1]^aC])\/dq [2].1/\()\/s3 3 qS ((oM*#[[0],[2]])^aC)\/aw (aO (c7 #[E5 (nF [3]) (eD aC) [3]]))) Gq
def Jo:(12,"answer_hint",2,oC):=kF M.a2S sQ (λa=>s3 2 sQ (pJ*#[[0],[0].1,[1]^aC])\/dq [2].1/\()\/s3 3 sQ (oM*#[[0],[2]])\/Ku.pt (yE (nF ([3]^aC)) (tP ([3]^aC==aC)))/\aw (aO (c7 #[aC]))\/aw (aO (c7 #[aC,(Cb*#[[2],[3],aC])^aC]))) IR
def GH:(11,"answer_sight",2,mL):=kF M.a2E xP (λa=>s3 2 xP (OG*#[[0]])\/nF [2]/\()\/aw (aO (Mc M.a2V gx #[[2]]))) Gv
def K6:(5,"answer_bar",2,pY):=kF M.a3c JN (λa=>[1]^aC>=-fl [0].1/\()\/aw (aO (c7 #[F8*#[[0],[1]^aC]]))) JV
def Jp:(5,"answer_tell",2,oF):=kF M.a2O sT (λa=>s3 2 sT ([1]^aC)\/[2]>=-fl [0].1/\()\/s3 3 sT (F8*#[[0],[2]])\/bY M8 M9 [3] aC rfl/\aw (aO (c7 #[ng M.a2f gx^[3]]))\/ -[0].1>=ng M.a2k gx/\()\/dm (N0*#[[0],[2]])\/aw (aO (c7 #[-[0].1]))) IT
def Jq:(14,"answer_lead",2,oI):=kF M.a2P oh (λa=>s3 2 oh (pJ*#[[0],[0].1,[1]^aC])\/dq [2].1/\()\/s3 3 oh ((oM*#[[0],[2]])^aC)\/HJ [3]/\aw (aO (c7 #[aC,[3]]))\/s3 4 oh (GE*#[[0],[1]^aC])\/nF [4]/\aw (aO (c7 #[aC]))\/aw (aO (c7 #[aC]+Mc M.a2V gx #[[4]]))) Jg
def K7:(12,"answer_map",2,pX):=kF M.a3b mn (λa=>s3 2 mn (pJ*#[[0],[0].1,[1]^aC])\/s3 3 mn (ZU M.a4S rfl gx #[QU (own:=[("ways",4)]) mn (dr [2].1) (JK 4 mn) ic (eQ M.a0v gy #[[4]])])\/aw (aO (c7 #[-[2].1,E5 (dq [2].1) aC aC,[3]]))) JU
def DF:(3,"strategy_entry",4,a6f):=kF M.a3n je (λa=>s3 4 je (c7 #[-[0].1^[3],[1]^[3]])\/s3 5 je (Cb*#[[0],[1],[3]])\/nF [5]/\aw (aO ([4]+c7 #[eD aC,aC]))\/(A5 (i:=6) (T:=(.one 7)) (own:=[("led",7)]) rfl je.nd rfl kx rfl (dr ([5]^aC)) bx (by decide) (λ_ _ _ _ _=>(JK 7 je)) (λ_ _ _ _ _=>ic) λ_ _ _ _ _=>(S3 (v3 2) (v3 7)))\/aw (aO ([4]+c7 #[[5]^aC]+q0*#[[6]]))) Dp
def Cd:(12,"answer_strategy",2,kj):=kF M.a2j gH (λa=>s3 2 gH (pJ*#[[0],[0].1,[1]^aC])\/dq [2].1/\()\/s3 3 gH (oM*#[[0],[2]])\/nF ([3]^aC)/\()\/s3 4 gH (Jl*#[[2],[3]])\/s3 5 gH (fk #[-[4]])\/oV (dr [4]) (g3 6 gH) (aw (dm (wo [5] (DF*#[[2],[3],[4],[6]]))))\/aw (aO [5])) C2
def Fc:(2,"answer_actual",2,lK):=kF M.a2x Eo (λa=>aw (aO (q0*#[[0].1]))) EK
def Jr:(2,"answer_past",2,oH):=kF M.a2Q sU (λa=>s3 2 sU (fk #[-[0].1])\/oV (dr [0].1) (g3 3 sU) (aw (dm (wo [2] (q0*#[[3]]))))\/aw (aO [2])) IV
def GI:(1,"answer_purse",2,mI):=kF M.a2J Gf (λa=>aw (aO (c7 #[[0].1]))) Gr
def DG:∀f sp,vR f sp->∃a ps,And (oU P w K mg base Kr 14 f a ps (l9 K sp)) (And (eJ K (.ref f)=ZY) (oY K a ps [])):=(by
 rintro f sp ⟨n,h⟩;unfold tp at h;split at h<;>cases h
 .exact mw (Jm M) M.a2N (by decide)
 .exact mw (Jn M) M.a2R (by decide)
 .exact mw (Fb M) M.a2y (by decide)
 .exact mw (GF M) M.a2C (by decide)
 .exact mw (GG M) M.a2I (by decide)
 .exact mw (Jo M) M.a2S (by decide)
 .exact mw (GH M) M.a2E (by decide)
 .exact mw (K6 M) M.a3c (by decide)
 .exact mw (Jp M) M.a2O (by decide)
 .exact mw (Jq M) M.a2P (by decide)
 .exact mw (K7 M) M.a3b (by decide)
 .exact mw (Cd M) M.a2j (by decide)
 .exact mw (Fc M) M.a2x (by decide)
 .exact mw (Jr M) M.a2Q (by decide)
 .exact mw (GI M) M.a2J (by decide))
def DH:(15,"answer_on_play",3,a5t):=kF M.a3r D3 (λa=>aw (aO (KJ (hm a) (DG M) (ng M.a2t gx^([1]-ng M.a3j gx-aC)) #[[0],[2]]))) Dx
def N2:Yw P w K mg base 3 "Game" iW a5r:=a0A M.a5a Mh (λa=>[0]%Yx (zZ M) (hm a) gx\/aw ([0]%iQ)) ML K0
def K8:(3,"clear_game",1,a5L):=kF M.a3Q JO (λa=>[0]%Yx (zZ M) (hm a) gx\/[0]%iQ\/aw (aO (c7 #[aC]))) JX
def GJ:(6,"build_puzzle",3,a5T):=kF M.a3F xR (λa=>s3 3 xR (AR*#[[0].1,[1],[2]])\/[3]^aC>=aC/\aw ([0]%iQ)\/aw (aO [3])) Gx
def K9:(6,"start_play",2,a5N):=kF M.a3P Bl (λa=>C9*#[[0].1]>ng M.a2o gx/\()\/s3 2 Bl (tG*#[[0].1])\/ -[2]>ng M.a2a gx/\()\/[0]%a1P (MZ M) (hm a) gx #[[0].1,[2],[1]]\/aw (aO (c7 #[-[2]]))) J_
def N4:(16,"answer_to",2,a5U):=kF M.a4i wO (λa=>s3 2 wO (Gz*#[[1]])\/nF [2]/\()\/s3 3 wO ([1]^aC)\/ij (dq (GB*#[[3],[2]]))/\()\/[3]==ng M.a3X gx/\aw (aO (K8*#[[0]]))\/[3]<ng M.a3j gx/\aw (aO (GJ*#[[0],[3],[2]]))\/[3]==ng M.a3j gx/\aw (aO (K9*#[[0],[2]^aC]))\/nF [0].1/\()\/aw (aO (DH*#[[0].1,[3],[2]]))) MV
def Qg{f b}(F:TF K "answers" "answers" A9 f b):oU P w K mg base Kr 17 f b ["calls"] (l9 K tq):=a1q F mX (λa=>s3 1 mX (Yx (N2 M) (hm a) gx)\/s3 2 mX (fk ai)\/s3 3 mX aC\/Z4 ([3]< -[0]) (s3 4 mX ([3]+aC+[0]^([3]+aC))\/s3 5 mX (N4*#[[1],E9 [0] ([3]+aC) [4]])\/[2]/ -[5]\/dm (wo [2] [5])\/aw (s3 3 mX [4]))\/aw (aO [2])) Qd (λds m Q h=>by obtain⟨_,rfl,_⟩:=h;rfl)
end
end L3
section
set_option maxHeartbeats 2000000
namespace L2
open PySem PySem.Spec PyProof.Rows
open PySem.W (WData Codec OpenSpec Well WellAll ReadsW ReadsAllW)
mutual
inductive Dw (K:ab) (H:Hp):V->lE->Prop
 |non:Dw K H .non .none
 |bl (b:Bool):Dw K H (.bl b) (.bool b)
 |int (i:Int):Dw K H (.int i) (.int i)
 |str (x:Str):Dw K H (.str x) (.str x)
 |byt (b:Array UInt8):Dw K H (.byt b) (.bytes b.toList)
 |lst {a:ak} {xs:List V} {ds:List lE}:ny K H a xs->xU K H xs ds->Dw K H (.ref a) (.list ds)
 |tup {a:ak} {xs:List V} {ds:List lE}:oQ K H a xs->xU K H xs ds->Dw K H (.ref a) (.tuple ds)
inductive xU (K:ab) (H:Hp):List V->List lE->Prop
 |nil:xU K H [] []
 |cons {v:V} {vs:List V} {d:lE} {ds:List lE}:Dw K H v d->xU K H vs ds->xU K H (v::vs) (d::ds)
end
def Ri{K H}:∀(a:List Int) (xs:List V),xU K H xs (a.map WData.int)->xs=a.map V.int
 |[],xs,h=>by cases h;rfl
 |n::r,xs,h=>by
  cases h with
  |cons h1 b=>cases h1;rw[Ri r _ b]<;>rfl
section
variable {P:bF} {w:cD} {K:ab} {H:Hp} {h:cQ} {R:PySem.W.WRecords} {cl:Str->Option ak}
def YT{a xs}(c:yd P w H h)(KX:K.In h)(q:ny K H a xs):∃(b:List aq) (o:Obj) (n:Nat),dC xs b/\h.get? a=Z_ o/\o.cls=.type "list"/\o.data=.seq b.toArray n:=by
 rcases q with q|⟨o,b,n,e,f,_,g,_,d⟩
 .obtain⟨_,b,n,d,e⟩:=(show iz P w H h a (.lst xs) from q.ok c)
  exact⟨b,_,n,d,e,rfl,rfl⟩
 .exact⟨b.toList,o,n,d,KX _ _ e,f,by simp[g]⟩
def YU{a xs}(c:yd P w H h)(KX:K.In h)(q:oQ K H a xs):∃(b:List aq) (o:Obj) (n:Nat),dC xs b/\h.get? a=Z_ o/\o.cls=.type "tuple"/\o.data=.seq b.toArray n:=by
 rcases q with q|⟨o,b,n,e,d,f,_,g⟩
 .obtain⟨_,b,g,o,e,d,n,f⟩:=(show iz P w H h a (.tup xs) from q.ok c)
  exact⟨b,o,n,g,e,d,f⟩
 .exact⟨b.toList,o,n,g,KX _ _ e,d,by simp[f]⟩
mutual
theorem Dw.reads (hok:yd P w H h) (KX:K.In h):∀(d:lE) (v:V) (u:aq),Dw K H v d->ee v u->∃as,GR R cl h u d as
 |.none,_,_,x,r=>by cases x;cases r;exact⟨_,ReadsW.none⟩
 |.bool b,_,_,x,r=>by cases x;cases r;exact⟨_,ReadsW.bool b⟩
 |.int i,_,_,x,r=>by cases x;obtain⟨t,rfl⟩:=r;exact⟨_,ReadsW.int i t⟩
 |.str s,_,_,x,r=>by cases x;obtain⟨t,rfl⟩:=r;exact⟨_,ReadsW.str s t⟩
 |.bytes b,_,_,x,r=>by cases x;obtain⟨t,rfl⟩:=r;exact⟨_,ReadsW.bytes _ t⟩
 |.list ds,_,_,x,r=>by
  cases x with
  |lst hs ha=>cases r;obtain⟨its,o,n,rv,ho,hc,hd⟩:=YT hok KX hs;obtain⟨as,hr⟩:=Dw.readsAll hok KX ds _ its ha rv;exact⟨_,ReadsW.list ho hc hd hr⟩
 |.tuple ds,_,_,x,r=>by
  cases x with
  |tup hs ha=>cases r;obtain⟨its,o,n,rv,ho,hc,hd⟩:=YU hok KX hs;obtain⟨as,hr⟩:=Dw.readsAll hok KX ds _ its ha rv;exact⟨_,ReadsW.tuple ho hc hd hr⟩
 |.float _,_,_,x,_=>by cases x
 |.dict _,_,_,x,_=>by cases x
 |.bytearray _,_,_,x,_=>by cases x
 |.set _,_,_,x,_=>by cases x
 |.frozenset _,_,_,x,_=>by cases x
 |.obj _ _,_,_,x,_=>by cases x
theorem Dw.readsAll (hok:yd P w H h) (KX:K.In h):∀(ds:List lE) (vs:List V) (us:List aq),xU K H vs ds->dC vs us->∃as,ReadsAllW R cl h us ds as
 |[],_,_,x,r=>by cases x;cases r;exact⟨_,ReadsAllW.nil⟩
 |d::ds,_,_,x,r=>by
  cases x with
  |cons h1 h2=>
   cases r with
   |cons r1 r2=>obtain⟨as,q1⟩:=Dw.reads hok KX d _ _ h1 r1;obtain⟨bs,q2⟩:=Dw.readsAll hok KX ds _ _ h2 r2;exact⟨_,ReadsAllW.cons q1 q2⟩
end
end
mutual
def Rj:lE->Bool
 |.none=>ZY
 |.bool _=>ZY
 |.int _=>ZY
 |.str _=>ZY
 |.bytes _=>ZY
 |.list xs=>GK xs
 |.tuple xs=>GK xs
 |_=>ZX
def GK:List lE->Bool
 |[]=>ZY
 |x::r=>Rj x&&GK r
end
def OH{α:Type}{f}(h:∀a,Rj (f a)=ZY):∀l:List α,GK (l.map f)=ZY
 |[]=>rfl
 |x::r=>by show (Rj (f x)&&GK (r.map f))=ZY;rw[h x,OH h r]<;>rfl
def z_:∀(c:Codec) (a:c.denote),Rj (c.enc a)=ZY
 |.unit,_=>rfl
 |.bool,_=>rfl
 |.int _ _,_=>rfl
 |.nat _ _,_=>rfl
 |.u8,_=>rfl
 |.bytes _ _,_=>rfl
 |.text _ _ _ _,_=>rfl
 |.list _ _ c,a=>OH (λx=>z_ c x) a
 |.pair c d,a=>by show (Rj (c.enc a.1)&&(Rj (d.enc a.2)&&ZY))=ZY;rw[z_ c a.1,z_ d a.2]<;>rfl
 |.triple c d e,a=>by show (Rj (c.enc a.1)&&(Rj (d.enc a.2.1)&&(Rj (e.enc a.2.2)&&ZY)))=ZY;rw[z_ c a.1,z_ d a.2.1,z_ e a.2.2]<;>rfl
 |.option c,ZZ=>rfl
 |.option c,Z_ x=>z_ c x
def LI:∀(b:List Codec) (a:AE b),GK (tK b a)=ZY
 |[],_=>rfl
 |c::b,a=>by show (Rj (c.enc a.1)&&GK (tK b a.2))=ZY;rw[z_ c a.1,LI b a.2]<;>rfl
def Ce:∀{xs:List lE} {d:lE},d∈xs->d.weight<=AF xs
 |[],d,h=>absurd h (by simp)
 |x::r,d,h=>by
  show d.weight<=x.weight+1+AF r;rcases aL.mp h with e|m
  .rw[e];lia
  .have z:=Ce m;lia
def OI:aq->V
 |.none=>.non
 |.bool b=>.bl b
 |.int i _=>.int i
 |.str x _=>.str x
 |.bytes b _=>.byt b
 |.ref a=>.ref a
 |_=>.non
def SO(A:List ak):aq->Prop
 |.none=>True
 |.bool _=>True
 |.int _ _=>True
 |.str _ _=>True
 |.bytes _ _=>True
 |.ref a=>a∈A
 |_=>False
def SO.mono{A B}(h:∀a∈A,a∈B):∀{u:aq},SO A u->SO B u:=λ{u} x=>by
 cases u with
 |ref a=>exact h a x
 |none=>trivial
 |bool b=>trivial
 |int i t=>trivial
 |str s t=>trivial
 |bytes b t=>trivial
 |_=>exact fY x
def Vo{A u}(x:SO A u):ee (OI u) u:=by
 cases u with
 |ref a=>rfl
 |none=>rfl
 |bool b=>rfl
 |int i t=>exact⟨t,rfl⟩
 |str s t=>exact⟨t,rfl⟩
 |bytes b t=>exact⟨t,rfl⟩
 |_=>exact fY x
def vV{A}:∀{vs:List aq},(∀u∈vs,SO A u)->dC (vs.map OI) vs
 |[],_=>.nil
 |u::r,h=>.cons (Vo (h u (bG ..))) (vV λx a=>h x (ba _ a))
def xV(h:cQ)(A:List ak)(a:ak):Prop:=∃b:List aq,b.length<=bc/\(∀u∈b,SO A u) /\
 (h.get? a=Z_ {cls:=.type "list",data:=.seq b.toArray}\/h.get? a=Z_ {cls:=.type "tuple",data:=.seq b.toArray})
def xV.mono{h A B a}(k:∀a∈A,a∈B)(x:xV h A a):xV h B a:=by obtain⟨b,h1,c,d⟩:=x;exact⟨b,h1,λu e=>(c u e).mono k,d⟩
def ud{P h}:∀{vs:List aq} {ds:List lE},DN P h vs ds->vs.length=ds.length:=by
 intro vs ds h;induction vs generalizing ds with
 |nil=>cases h;rfl
 |cons v vs a=>cases h with
  |cons _ b=>show _+1=_+1;rw[a b]
def LJ{P}{h:cQ}{v ds}(x:Well P h v (.list ds)):∃(a:ak) (vs:List aq),v=.ref a/\h.get? a=Z_ {cls:=.type "list",data:=.seq vs.toArray}/\DN P h vs ds:=by
 cases x with
 |list c b=>exact⟨_,_,rfl,c,b⟩
def Js{P}{h:cQ}{v ds}(x:Well P h v (.tuple ds)):∃(a:ak) (vs:List aq),v=.ref a/\h.get? a=Z_ {cls:=.type "tuple",data:=.seq vs.toArray}/\DN P h vs ds:=by
 cases x with
 |tuple c b=>exact⟨_,_,rfl,c,b⟩
def LK{P h us d ds}(x:DN P h us (d::ds)):∃(v:aq) (vs:List aq),us=v::vs/\Well P h v d/\DN P h vs ds:=by
 cases x with
 |cons a b=>exact⟨_,_,rfl,a,b⟩
def Rk{n:Nat}(h:n<=1048576):n<=bc:=c6 h (by decide)
section
variable {P:Kd} {h:cQ}
mutual
theorem Vp:∀(d:lE) (v:aq),Well P h v d->Rj d=ZY->d.weight<=1048576->∃A:List ak,SO A v/\∀a∈A,xV h A a
 |.none,_,x,_,_=>by cases x;exact⟨[],trivial,λa m=>absurd m (by simp)⟩
 |.bool b,_,x,_,_=>by cases x;exact⟨[],trivial,λa m=>absurd m (by simp)⟩
 |.int i,_,x,_,_=>by cases x;exact⟨[],trivial,λa m=>absurd m (by simp)⟩
 |.str s,_,x,_,_=>by cases x;exact⟨[],trivial,λa m=>absurd m (by simp)⟩
 |.bytes b,_,x,_,_=>by cases x;exact⟨[],trivial,λa m=>absurd m (by simp)⟩
 |.list ds,_,x,p,z=>by
  obtain⟨a,vs,rfl,ho,hall⟩:=LJ x;have z2:AF ds<=1048576:=z;obtain⟨A,h1,h2⟩:=DI ds _ hall p λd hd=>c6 (Ce hd) z2;have k:∀b∈A,b∈a::A:=λb hb=>ba _ hb;refine⟨a::A,bG ..,λb hb=>?_⟩;rcases aL.mp hb with e|m
  .rw[e];exact⟨vs,Rk (by rw[ud hall];exact c6 (PySem.W.length_le_weightAllW ds) z2),λu hu=>(h1 u hu).mono k,.inl ho⟩
  .exact (h2 b m).mono k
 |.tuple ds,_,x,p,z=>by
  obtain⟨a,vs,rfl,ho,hall⟩:=Js x;have z2:AF ds<=1048576:=z;obtain⟨A,h1,h2⟩:=DI ds _ hall p λd hd=>c6 (Ce hd) z2;have k:∀b∈A,b∈a::A:=λb hb=>ba _ hb;refine⟨a::A,bG ..,λb hb=>?_⟩;rcases aL.mp hb with e|m
  .rw[e];exact⟨vs,Rk (by rw[ud hall];exact c6 (PySem.W.length_le_weightAllW ds) z2),λu hu=>(h1 u hu).mono k,.inr ho⟩
  .exact (h2 b m).mono k
 |.float _,_,_,p,_=>dH (show ZX=ZY from p)
 |.dict _,_,_,p,_=>dH (show ZX=ZY from p)
 |.bytearray _,_,_,p,_=>dH (show ZX=ZY from p)
 |.set _,_,_,p,_=>dH (show ZX=ZY from p)
 |.frozenset _,_,_,p,_=>dH (show ZX=ZY from p)
 |.obj _ _,_,_,p,_=>dH (show ZX=ZY from p)
theorem DI:∀(ds:List lE) (vs:List aq),DN P h vs ds->GK ds=ZY->(∀d∈ds,d.weight<=1048576)->∃A:List ak,(∀u∈vs,SO A u)/\∀a∈A,xV h A a
 |[],_,x,_,_=>by cases x;exact⟨[],λu m=>absurd m (by simp),λa m=>absurd m (by simp)⟩
 |d::ds,_,x,p,z=>by
  obtain⟨v,vs,rfl,x1,x2⟩:=LK x;have q:Rj d=ZY/\GK ds=ZY:=Bool.and_eq_true_iff.mp p;obtain⟨A,a1,a2⟩:=Vp d v x1 q.1 (z d (bG ..));obtain⟨B,b1,b2⟩:=DI ds vs x2 q.2 λe he=>z e (ba _ he);have kA:∀b∈A,b∈A++B:=λb hb=>aX.mpr (.inl hb);have kB:∀b∈B,b∈A++B:=λb hb=>aX.mpr (.inr hb);refine⟨A++B,λu hu=>?_,λb hb=>?_⟩
  .rcases aL.mp hu with e|m
   .rw[e];exact a1.mono kA
   .exact (b1 u m).mono kB
  .rcases aX.mp hb with m|m
   .exact (a2 b m).mono kA
   .exact (b2 b m).mono kB
end
end
def WK(o:Obj):Option HO:=match o.data with
 |.seq a _=>if (o.cls==iu "list")=ZY then Z_ (.frz o (.lst (a.toList.map OI))) else Z_ (.frz o (.tup (a.toList.map OI)))
 |_=>ZZ
def xo(K:ab)(h:cQ)(A:List ak):Hp:=λb=>if b∈A then (if (K.lookup b).isNone=ZY then (h.get? b).bind WK else ZZ) else ZZ
def LL(H:Hp):Prop:=∀b,H b=ZZ\/∃o u,H b=Z_ (.frz o u)
def OJ(vs:List aq):WK {cls:=.type "list",data:=.seq vs.toArray}=Z_ (.frz {cls:=.type "list",data:=.seq vs.toArray} (.lst (vs.map OI))):=by show (if (iu "list"==iu "list")=ZY then Z_ (HO.frz {cls:=.type "list",data:=.seq vs.toArray} (.lst (vs.toArray.toList.map OI))) else Z_ (HO.frz {cls:=.type "list",data:=.seq vs.toArray} (.tup (vs.toArray.toList.map OI))))=_;rw[i0p (beq_self_eq_true _)]
def OK(vs:List aq):WK {cls:=.type "tuple",data:=.seq vs.toArray}=Z_ (.frz {cls:=.type "tuple",data:=.seq vs.toArray} (.tup (vs.map OI))):=by show (if (iu "tuple"==iu "list")=ZY then Z_ (HO.frz {cls:=.type "tuple",data:=.seq vs.toArray} (.lst (vs.toArray.toList.map OI))) else Z_ (HO.frz {cls:=.type "tuple",data:=.seq vs.toArray} (.tup (vs.toArray.toList.map OI))))=_;rw[i0n (by decide)]
section
variable {P:bF} {w:cD} {K:ab} {h:cQ} {A:List ak}
def Hl{b o}(a:b∈A)(c:K.lookup b=ZZ)(e:h.get? b=Z_ o):xo K h A b=WK o:=by unfold xo;rw[i0p a,c,i0p (show (ZZ:Option Obj).isNone=ZY from rfl),e]<;>rfl
def WL{b u}(q:xo K h A b=Z_ u):b∈A/\K.lookup b=ZZ:=by
 unfold xo at q;by_cases a:b∈A
 .rw[i0p a]at q;cases c:K.lookup b with
  |none=>exact⟨a,rfl⟩
  |some o=>rw[c,i0n (by simp)]at q;cases q
 .rw[i0n a]at q;cases q
def Hm(f:∀a∈A,xV h A a){b u}(q:xo K h A b=Z_ u):K.lookup b=ZZ/\∃vs:List aq,vs.length<=bc/\(∀u∈vs,SO A u) /\
  ((h.get? b=Z_ {cls:=.type "list",data:=.seq vs.toArray}/\u=.frz {cls:=.type "list",data:=.seq vs.toArray} (.lst (vs.map OI))) \/
   (h.get? b=Z_ {cls:=.type "tuple",data:=.seq vs.toArray}/\u=.frz {cls:=.type "tuple",data:=.seq vs.toArray} (.tup (vs.map OI)))):=by
 obtain⟨c,d⟩:=WL q;obtain⟨vs,h1,g,i⟩:=f b c;refine⟨d,vs,h1,g,?_⟩;rcases i with e|e
 .rw[Hl c d e,OJ]at q;exact .inl ⟨e,(az q).symm⟩
 .rw[Hl c d e,OK]at q;exact .inr ⟨e,(az q).symm⟩
def SQ(c:∀a∈A,xV h A a):LL (xo K h A):=λb=>by
 cases q:xo K h A b with
 |none=>exact .inl rfl
 |some u=>
  obtain⟨_,vs,_,_,⟨_,e⟩|⟨_,e⟩⟩:=Hm c q
  .exact .inr ⟨_,_,by rw[e]⟩
  .exact .inr ⟨_,_,by rw[e]⟩
def WM(f:∀a∈A,xV h A a):yd P w (xo K h A) h:=λb u q=>by
 obtain⟨_,c,h1,d,⟨e,rfl⟩|⟨e,rfl⟩⟩:=Hm f q
 .exact⟨e,by rw[ah];exact h1,c,_,vV d,e⟩
 .exact⟨e,by rw[ah];exact h1,c,vV d,_,e,rfl,_,rfl⟩
def Hn{c a}{vs us:List aq}(e:(Z_ {cls:=c,data:=.seq vs.toArray}:Option Obj)=Z_ {cls:=a,data:=.seq us.toArray}):c=a/\vs=us:=by
 have b:=az e;have d:c=a:=congrArg Obj.cls b;have f:Data.seq vs.toArray=Data.seq us.toArray:=congrArg Obj.data b;injection f with g
 refine⟨d,?_⟩;have i:=congrArg Array.toList g;simpa using i
def a1F(KX:K.In h)(i:∀a∈A,xV h A a){a}{vs:List aq}(c:a∈A)(e:h.get? a=Z_ {cls:=.type "list",data:=.seq vs.toArray}):(∀u∈vs,SO A u)/\ny K (xo K h A) a (vs.map OI):=by
 obtain⟨d,h1,f,j⟩:=i a c;have k:d=vs:=by
  rcases j with q|q
  .rw[e]at q;exact (Hn q).2.symm
  .rw[e]at q;exact absurd (Value.type.inj (Hn q).1) (by decide)
 subst k;refine⟨f,?_⟩;cases b:K.lookup a with
 |none=>exact .inl (.inr ⟨_,by rw[Hl c b e,OJ]⟩)
 |some o=>have g:=KX a o b;rw[e]at g;obtain rfl:=az g;exact .inr ⟨_,d.toArray,_,b,rfl,rfl,rfl,by rw[br];exact h1,by simpa using vV f⟩
def a1G(KX:K.In h)(i:∀a∈A,xV h A a){a}{vs:List aq}(c:a∈A)(e:h.get? a=Z_ {cls:=.type "tuple",data:=.seq vs.toArray}):(∀u∈vs,SO A u)/\oQ K (xo K h A) a (vs.map OI):=by
 obtain⟨d,h1,f,j⟩:=i a c;have k:d=vs:=by
  rcases j with q|q
  .rw[e]at q;exact absurd (Value.type.inj (Hn q).1) (by decide)
  .rw[e]at q;exact (Hn q).2.symm
 subst k;refine⟨f,?_⟩;cases b:K.lookup a with
 |none=>exact .inl (.inr ⟨_,by rw[Hl c b e,OK]⟩)
 |some o=>have g:=KX a o b;rw[e]at g;obtain rfl:=az g;exact .inr ⟨_,d.toArray,_,b,rfl,rfl,by rw[br];exact h1,by simpa using vV f⟩
mutual
theorem YV {Pm:Kd} (KX:K.In h) (ar:∀a∈A,xV h A a):∀(d:lE) (v:aq),Well Pm h v d->Rj d=ZY->SO A v->Dw K (xo K h A) (OI v) d
 |.none,_,x,_,_=>by cases x;exact .non
 |.bool b,_,x,_,_=>by cases x;exact .bl b
 |.int i,_,x,_,_=>by cases x;exact .int i
 |.str s,_,x,_,_=>by cases x;exact .str s
 |.bytes b,_,x,_,_=>by cases x;have z:=Dw.byt (K:=K) (H:=xo K h A) b.toArray;exact z
 |.list ds,_,x,p,hu=>by obtain⟨a,vs,rfl,ho,hall⟩:=LJ x;obtain⟨h2,hs⟩:=a1F KX ar hu ho;exact .lst hs (N5 KX ar ds _ hall p h2)
 |.tuple ds,_,x,p,hu=>by obtain⟨a,vs,rfl,ho,hall⟩:=Js x;obtain⟨h2,hs⟩:=a1G KX ar hu ho;exact .tup hs (N5 KX ar ds _ hall p h2)
 |.float _,_,_,p,_=>dH (show ZX=ZY from p)
 |.dict _,_,_,p,_=>dH (show ZX=ZY from p)
 |.bytearray _,_,_,p,_=>dH (show ZX=ZY from p)
 |.set _,_,_,p,_=>dH (show ZX=ZY from p)
 |.frozenset _,_,_,p,_=>dH (show ZX=ZY from p)
 |.obj _ _,_,_,p,_=>dH (show ZX=ZY from p)
theorem N5 {Pm:Kd} (KX:K.In h) (ar:∀a∈A,xV h A a):∀(ds:List lE) (vs:List aq),DN Pm h vs ds->GK ds=ZY->(∀u∈vs,SO A u)->xU K (xo K h A) (vs.map OI) ds
 |[],_,x,_,_=>by cases x;exact .nil
 |d::ds,_,x,p,hu=>by obtain⟨v,vs,rfl,x1,x2⟩:=LK x;have q:Rj d=ZY/\GK ds=ZY:=Bool.and_eq_true_iff.mp p;exact .cons (YV KX ar d v x1 q.1 (hu _ (bG ..))) (N5 KX ar ds vs x2 q.2 λu m=>hu u (ba _ m))
end
end
def SR{P}{w:cD}{K:ab}{y J CX}{k:Nat}{X Y}{ps:List Str}{sp}{s₁:aA}{vals}{ds:List lE}{R cl d0}
  (KX:K.In s₁.heap)(B:s₁.heap.Ns eu y)(L:s₁.heap.Ns builtinsNs J)(M:∀x:Str,x≠"__name__"->J x=oN x)(C:s₁.heap.NoLimit)(hg:s₁.gens=#[])
  (i:DN w.params s₁.heap vals ds)(D:GK ds=ZY)(N:∀d∈ds,d.weight<=1048576)(hr:jw k callerA)
  (F:∀base:cQ,K.In base->base.Ns eu y->oU P w K y base CX k X Y ps sp)(j:∀(s:aA) (us:List aq),us.length=ps.length->BindsTo s Y ⟨us,[]⟩ (ps.zip us))(hlen:ds.length=ps.length)
  (O:∀(H:Hp) (xs:List V),LL H->xU K H xs ds->sp xs H (λv H'=>Dw K H' v d0) λ_ _ _=>False)
  (Q:∀H e c,CX [] H s₁ (λ_ _ _=>False) e c->False) :
  Hs (bI P w) callerA (.call (.ref X) ⟨vals,[]⟩) (λr c=>∃u as,r=.ok (.ret u)/\GR R cl c.heap u d0 as/\OldK s₁.heap c.heap/\c.os=s₁.os/\AllBare c.gens) s₁:=by
 obtain⟨A,Z,E⟩:=DI ds vals i D N;have S:LL (xo K s₁.heap A):=SQ E;have l:yd P w (xo K s₁.heap A) s₁.heap:=WM E;have hS:=N5 KX E ds vals i D Z;have hV:=vV Z;have hK:∀b u,xo K s₁.heap A b=Z_ u->K.lookup b=ZZ:=λb u q=>(Hm E q).1;have noA:∀{b:ak} {o:Obj} {p:Array fq} {t:Nat},s₁.heap.get? b=Z_ o->o.data=.dict p t->xo K s₁.heap A b=ZZ:=λ{b o p t} e d=>by
  cases q:xo K s₁.heap A b with
  |none=>rfl
  |some u=>
   obtain⟨_,vs,_,_,⟨G,_⟩|⟨G,_⟩⟩:=Hm E q
   .rw[G]at e;cases e;have T:Data.seq vs.toArray _=Data.dict p t:=d;cases T
   .rw[G]at e;cases e;have T:Data.seq vs.toArray _=Data.dict p t:=d;cases T
 generalize xo K s₁.heap A=H at S l hS hK noA;have a:∀{b:ak} {o:Obj},s₁.heap.get? b=Z_ o->H b=ZZ->(LP s₁.heap H).get? b=Z_ o:=λe n=>T6 e n;have f:∀{b:ak} {m:Str->Option aq},s₁.heap.Ns b m->(LP s₁.heap H).Ns b m:=λ{b m} ⟨o,p,t,e,d,r⟩=>⟨o,p,t,a e (noA e d),d,r⟩
 have nK:∀b o,K.lookup b=Z_ o->H b=ZZ:=λb o e=>by
  cases q:H b with
  |none=>rfl
  |some u=>rw[hK b u q]at e;cases e
 have I:K.In (LP s₁.heap H):=λb o e=>a (KX b o e) (nK b o e);have hM:jb K y (LP s₁.heap H):=⟨I,f B,⟨J,f L,M⟩,let ⟨mc,h1,h2⟩:=C;⟨mc,f h1,h2⟩⟩
 have e0:OY P w K y (LP s₁.heap H) callerA [] s₁ H:=⟨rfl,hM,λb o e=>Vw e,AU (Rq _ _),trivial,λb L=>absurd (show b∈([]:List ak) from L) (by simp),l,.of_eq hg⟩
 have hl:vals.length=ps.length:=by rwa[ud i]
 refine codeAny_mono ((F _ I (f B)).run callerA [] s₁ H ⟨vals,[]⟩ vals (vals.map OI) _ _ hr e0 (j s₁ vals hl) hV (O H _ S hS)) λr c x=>?_;cases r with
 |error e=>exact (Q H e c x).elim
 |ok fl=>
  cases fl with
  |next=>exact fY x
  |brk=>exact fY x
  |cont=>exact fY x
  |ret u=>
   obtain⟨v,H',os,bare,un,g,r',q⟩:=x;have kept:∀b o,s₁.heap.get? b=Z_ o->c.heap.get? b=Z_ o:=λb o e=>by
    cases q2:H b with
    |none=>exact un.keep b o e q2 (by intro z;exact absurd (show b∈([]:List ak) from z) (by simp)) (by simp)
    |some u2=>
     rcases S b with z|⟨ob,u3,z⟩
     .rw[q2]at z;cases z
     .have z2:=un.a3Y b ob _ z;obtain⟨e1,_⟩:=l b _ z;obtain⟨G,_⟩:=g b _ z2;rw[e]at e1;cases e1;exact G
   have KX':K.In c.heap:=λb o e=>kept b o (KX b o e);obtain⟨as,U⟩:=Dw.reads (R:=R) (cl:=cl) g KX' d0 v u q r';exact⟨u,as,rfl,U,OldK.of_keep kept,os,bare⟩
def Jt{ds}(h:WData.layableAll ds=ZY):∀d∈ds,d.weight<=1048576:=λd a=>(PySem.W.layableW_iff.mp (cb.mp h d a)).2.2
def Ju:∀(b:List Codec) (a:AE b),(tK b a).length=b.length
 |[],_=>rfl
 |c::b,a=>by show (tK b a.2).length+1=b.length+1;rw[Ju b a.2]
def SS{r:OpenSpec}{k:Nat}{q:bF}{loose:List Str}{XP:(Str->Option aq)->cQ->Prop}{YP:cD->cQ->Prop}{d:DefRec}{K:Kd->ab}{CX:cD->SV}{ps:List Str}{sp:cD->Sp}
  (c:r.wellSaid=ZY)(hdf:d.params.defaults=[])(hlen:r.args.length=ps.length)(I:jw k callerA)
  (J:∀(w:cD) (h:cQ),YP w h->(K w.params).In h)
  (F:∀(w:cD) (i:Str->Option aq) (n:ak) (h:cQ),YP w h->(K w.params).In h->h.Ns eu i->i d.name=Z_ (.ref n) ->
   ∃t:jx,(∀(s:aA) (us:List aq),us.length=ps.length->BindsTo s t ⟨us,[]⟩ (ps.zip us)) /\
    ∀base:cQ,(K w.params).In base->base.Ns eu i->oU r.prog w (K w.params) i base (CX w) k n t ps (sp w))
  (x:∀(w:cD) (H:Hp) (xs:List V) (a:AE r.args),LL H->Codec.withinAll r.args a=ZY->Jy r.args r.asked a=ZY->xU (K w.params) H xs (tK r.args a) ->
   sp w xs H (λv H'=>Dw (K w.params) H' v (r.ret.enc (Jy r.args r.f a))) λ_ _ _=>False)
  (y:∀(w:cD) (H:Hp) (s:aA) (e:aq) (p:aA),CX w [] H s (λ_ _ _=>False) e p->False) :
  PySem.W.WalkOS q loose XP YP r d [] (λf vs=>PySem.call f vs):=by
 intro w B s₁ i mb G Y n o pm cd doc dV kV ho hd hcd hD C L args vals as j l hrd D hlo;obtain⟨a,M,N⟩:=PySem.W.os_pre_some j;obtain⟨O,m⟩:=Codec.encAll_of_decAll r.args args a M;subst O;have KX:=J w _ Y;obtain⟨t,Q,S⟩:=F w i n _ Y KX G.T.g C;refine PySem.W.enter_call (codeAny_mono (SR (R:=[]) (cl:=classAt B.heap) (d0:=r.ret.enc (Jy r.args r.f a)) KX G.T.g G.T.b G.T.builtins G.T.nolimit L D (LI _ _) (Jt l) I S Q (by rwa[Ju])
  (λH xs U X=>x w H xs a U m N X) λH e p=>y w H s₁ e p) λr' p Z=>?_)
 obtain⟨u,E,rfl,h1,h2,h3,h4⟩:=Z;exact⟨.inl ⟨u,_,E,rfl,λ_=>rfl,h1,(OpenSpec.post_iff c m _ _).mpr rfl,λz=>dH (show ZX=ZY from z)⟩,h2,h3,h4⟩
end L2

end
namespace L3
open PySem PySem.Spec PyProof.Rows L2
section
variable {P:bF} {w:cD} {K:ab} {mg:Str->Option aq} {h:cQ}
def bD{x st f g i j d kV e m b n}(X:K.In h)(G:h.Ns eu mg)(a:yn K eu x=Z_ (Z_ (.ref f)))(l:K.lookup f=Z_ ⟨g,i,.func (jq x x (tO st) (lG st) (aY st) .none kV e m j b n),d⟩)
  (c:tJ K b x=ZY)(k:eJ K (.ref f)=ZY):ek K mg x st f:=⟨_,vY X G a,TH l c k⟩
def noA{C}(h1:bP K (.ref C) "sizes"=Z_ ZZ)(n:bP K (.ref C) "begins"=Z_ ZZ)(o:bP K (.ref C) "spans"=Z_ ZZ)(p:bP K (.ref C) "doings"=Z_ ZZ)(q:bP K (.ref C) "goal"=Z_ ZZ)
  (r:bP K (.ref C) "views"=Z_ ZZ)(s:bP K (.ref C) "facts"=Z_ ZZ)(t:bP K (.ref C) "puzzle"=Z_ ZZ)(u:bP K (.ref C) "actual"=Z_ ZZ)(a:bP K (.ref C) "belief"=Z_ ZZ)
  (b:bP K (.ref C) "purse"=Z_ ZZ)(c:bP K (.ref C) "past"=Z_ ZZ)(d:bP K (.ref C) "sights"=Z_ ZZ)(e:bP K (.ref C) "trials"=Z_ ZZ)(g:bP K (.ref C) "room"=Z_ ZZ)
  (i:bP K (.ref C) "over"=Z_ ZZ)(j:bP K (.ref C) "beliefs"=Z_ ZZ)(k:bP K (.ref C) "ways"=Z_ ZZ)(l:bP K (.ref C) "numbers"=Z_ ZZ)(m:bP K (.ref C) "play"=Z_ ZZ):∀f∈HI,wc K C f:=by
 unfold HI;simp only[List.forall_mem_cons];exact⟨h1,n,o,p,q,r,s,t,u,a,b,c,d,e,g,i,j,k,l,m,by simp⟩
def Ho{x q st C f g i j d kV e m b n}(X:K.In h)(G:h.Ns eu mg)(a:yn K eu x=Z_ (Z_ (.ref C)))
  (o:bP K (.ref C) "__init__"=Z_ (Z_ (.ref f)))(p:PySem.W.isFn K (.ref f)=ZY)(l:K.lookup f=Z_ ⟨g,i,.func (jq "__init__" q (tO st) (lG st) (aY st) .none kV e m j b n),d⟩)(c:tJ K b q=ZY)(k:eJ K (.ref f)=ZY)
  (r:xp K C Str.empty=ZY)(s:uZ K C=ZY)(t:Ff K C=ZY)(u:bP K (.ref C) "__setattr__"=Z_ (Z_ (.builtin "object.__setattr__")))(mk:PySem.W.makesIn K C=ZY)(v:eJ K (.ref C)=ZY)
  (y:∀f∈HI,wc K C f):S6 K mg x q st C:=⟨_,_,vY X G a,TH l c k,⟨mk,o,p,v⟩,⟨⟨r,s,t,u⟩,y⟩⟩
def pK{x}{i:Int}{t}(X:K.In h)(G:h.Ns eu mg)(a:yn K eu x=Z_ (Z_ (.int i t))):GV K mg x (.int i):=⟨_,.int i,vY X G a,⟨t,rfl⟩,λ_=>.int i⟩
inductive RK(K:ab):D->aq->Prop
 |int {i:Int} {t:Tok}:RK K (.int i) (.int i t)
 |str {x:Str} {t:Tok}:RK K (.str x) (.str x t)
 |ref {a:ak}:RK K (.ref a) (.ref a)
 |mtup {a:ak} {ds:List D} {od:Option ak} {its:Array aq} {n:Nat} {sl:Array (Option aq)}:K.lookup a=Z_ ⟨.type "tuple",od,.seq its n,sl⟩->its.size<=bc->cE (RK K) ds its.toList->RK K (.mtup ds) (.ref a)
def RK.rep{d u}(r:RK K d u):∃v,ee v u/\∀H,k_ K H d v:=by
 induction r using RK.rec (motive_2:=λe f _=>∃a,dC a f/\∀H,dA K H e a) with
 |int=>exact⟨.int _,⟨_,rfl⟩,λ_=>.int _⟩
 |str=>exact⟨.str _,⟨_,rfl⟩,λ_=>.str _⟩
 |ref=>exact⟨.ref _,rfl,λ_=>.ref _⟩
 |mtup l g _ i=>obtain⟨a,h1,j⟩:=i;exact⟨.ref _,rfl,λH=>.mtup ⟨_,_,_,l,rfl,rfl,g,h1⟩ (j H)⟩
 |nil=>exact⟨[],.nil,λ_=>.nil⟩
 |cons _ _ b c=>obtain⟨v,k,m⟩:=b;obtain⟨a,n,o⟩:=c;exact⟨v::a,.cons k n,λH=>.cons (m H) (o H)⟩
def Rl{x d u}(X:K.In h)(G:h.Ns eu mg)(a:yn K eu x=Z_ (Z_ u))(r:RK K d u):GV K mg x d:=by obtain⟨v,h1,b⟩:=r.rep;exact⟨u,v,vY X G a,h1,b⟩
inductive YW(w:cD)(K:ab):Str×D->fq->Prop
 |mk {x:Str} {d:D} {t:Tok} {u:aq}:RK K d u->YW w K (x,d) ⟨hashStr w x,.str x t,u⟩
def WN:List (Str×D):=[("size",.mtup [.int 1,.int 50]),("begin",.mtup [.int 0,.int 49]),("variable",.mtup [.int 0,.int 7]),("least",.mtup [.int 0,.int 49]),("greatest",.mtup [.int 0,.int 49]),("price",.mtup [.int 0,.int 1000]),("purse",.mtup [.int 0,.int 10000]),("doing",.mtup [.int 0,.int 19]),("fact",.mtup [.int 0,.int 11]),("most",.mtup [.int 1,.int 60])]
def Vq{L:List (Str×D)}{f}(i:cE (YW w K) L f):∃b:List (LO×aq),Pairs (lF P w) f b/\b.map (λj=>j.1)=L.map (λr=>(l4 r.1:LO))/\(∀e∈f,∃k,(lF P w).is k e.key=ZY/\e.hash=(lF P w).hash k)/\∀x d,L.lookup x=Z_ d->∃u,Ax b (.inr x)=Z_ u/\RK K d u:=by
 induction i with
 |nil=>exact⟨[],.nil,rfl,λe g=>(by cases g),λx d l=>(by cases l)⟩
 |cons a rest m=>
  obtain @⟨x,d,t,u,r⟩:=a;obtain⟨b,h1,n,o,p⟩:=m;refine⟨(.inr x,u)::b,.cons (yx P w x t) rfl h1,by rw[aQ,aQ,n],λe g=>?_,λy q c=>?_⟩
  .rcases aL.mp g with z|z
   .subst z;exact⟨.inr x,yx P w x t,rfl⟩
   .exact o e z
  .rw[cX]at c;unfold Ax;by_cases e:y=x
   .subst e;rw[beq_self_eq_true]at c;cases az c;exact⟨u,by simp,r⟩
   .rw[beq_false_of_ne e]at c;obtain⟨s,v,A⟩:=p y q c;refine⟨s,?_,A⟩;rwa[d6 (by simp;exact λz=>e z.symm)]
def YX{a}{c:Array fq}{g:Nat}(X:K.In h)(G:h.Ns eu mg)(i:yn K eu "RANGES"=Z_ (Z_ (.ref a)))(f:(a==eX)=ZX)(l:K.lookup a=Z_ ⟨.type "dict",ZZ,.dict c g,#[]⟩)(j:cE (YW w K) WN c.toList):Ux P w K mg:=by
 obtain⟨b,h1,k,m,n⟩:=Vq (P:=P) j;refine⟨a,_,b,vY X G i,f,l,λh' o=>⟨_,c,g,o,⟨rfl,rfl,rfl⟩,rfl,λe p=>m e (by simpa using p),h1,?_⟩,λx d q=>?_⟩
 .show (b.map λr=>r.1).Nodup;rw[k];decide +kernel
 .obtain⟨u,s,t⟩:=n x d q;obtain⟨v,y,z⟩:=t.rep;exact⟨v,u,s,y,z⟩
def YY{c}(M:jb P w K mg)(a:mg "answers"=Z_ (.ref c)):∃b:jx,(∀(s:aA) (us:List aq),us.length=(["calls"]:List Str).length->BindsTo s b ⟨us,[]⟩ ((["calls"]:List Str).zip us)) /\
  ∀base:cQ,K.In base->base.Ns eu mg->oU P w K mg base Kr 100 c b ["calls"] (l9 K tq):=by
 obtain⟨b,h1,F⟩:=M.a4C.ex;rw[h1]at a;cases a;refine⟨b,?_,λbase _ _=>oU.mono (Qg M F) (by decide)⟩;obtain⟨oc,od,kV,doc,pm,an,cdv,ct,osl,rfl,lk,hcd⟩:=F.ex;exact λs us d=>match us,d with|[_],_=>.of_eq rfl
def a0n(K:ab):Bool:=K.all λe=>match e.2.cls with
 |.type s=>!(s=="list")
 |_=>ZY
nonrec def YZ{a}{o:Obj}(d:a0n K=ZY)(c:K.lookup a=Z_ o)(g:o.cls=.type "list"):False:=by
 unfold a0n at d;rw[cb]at d;have hm:(a,o)∈K:=by
  clear d;induction K with
  |nil=>cases c
  |cons e K i=>
   obtain⟨b,p⟩:=e;rw[cX]at c;split at c
   .rename_i f;have:a=b:=by simpa using f
    cases az c;rw[this];exact bG
   .exact ba _ (i c)
 have:=d _ hm;simp only[g]at this;simp at this
def Rm{H}:∀l:List Int,dA K H (dI l) (l.map V.int)
 |[]=>.nil
 |i::l=>.cons (.int i) (Rm l)
def Xc{H}:∀{l:List Int} {xs:List V},dA K H (dI l) xs->xU K H xs (l.map PySem.W.WData.int):=by
 intro l xs h;induction l generalizing xs with
 |nil=>change dA K H [] xs at h;cases h;exact .nil
 |cons i l b=>
  change dA K H (.int i::dI l) xs at h
  cases h with|cons a r=>cases a;exact .cons (.int i) (b r)
def Y_{H a}{l:List Int}{E}(c:a0n K=ZY)(f:LL H)(hs:ny K H a (l.map V.int))(g:yc l=ZY):l9 K tq [.ref a] H (λv H'=>Dw K H' v (.list ((w9 l).map PySem.W.WData.int))) E:=by
 obtain⟨i,j,k,m,p⟩:=WB g;have b:∃o,H a=Z_ (.frz o (.lst (l.map V.int))):=by
  rcases hs with (h|h)|⟨o,its,n,h1,s,_⟩
  .rcases f a with z|⟨o,u,z⟩
   .rw[z]at h;cases h
   .rw[z]at h;cases h
  .exact h
  .exact (YZ c h1 s).elim
 obtain⟨o,b⟩:=b;refine⟨[.lst (dI l)],λ_=>ZZ,λd _=>d=.lst (dI (w9 l)),.cons (.lst b (Rm l)) .nil,λ_ _ h=>(by cases h),⟨i,by rw[j],k,m,by rw[p]⟩,λd v m' H' t rm le q=>?_⟩;subst q;cases t with
 |lst e r=>exact .lst (.inl (.inr ⟨_,e⟩)) (Xc r)
end
open PySem.W (Codec OpenSpec) in
def a0o {r:OpenSpec} {k:Nat} {q:bF} {loose:List Str} {XP:(Str->Option aq)->cQ->Prop} {YP:cD->cQ->Prop} {d:DefRec} {K:Kd->ab} {CX:SV} {ps:List Str} {sp:ab->Sp}
  (hwell:r.wellSaid=ZY) (hdf:d.params.defaults=[]) (hlen:r.args.length=ps.length) (hr:jw k callerA)
  (hY:∀(w:cD) (h:cQ),YP w h->(K w.params).In h) (hN:∀w:cD,a0n (K w.params)=ZY)
  (F:∀(w:cD) (mg:Str->Option aq) (fa:ak) (h:cQ),YP w h->(K w.params).In h->h.Ns eu mg->mg d.name=Z_ (.ref fa) ->
   ∃fd:jx,(∀(s:aA) (us:List aq),us.length=ps.length->BindsTo s fd ⟨us,[]⟩ (ps.zip us)) /\
    ∀base:cQ,(K w.params).In base->base.Ns eu mg->oU r.prog w (K w.params) mg base CX k fa fd ps (sp (K w.params)))
  (hsp:∀(K:ab) (H:Hp) (xs:List V) (a:AE r.args),a0n K=ZY->LL H->Codec.withinAll r.args a=ZY->Jy r.args r.asked a=ZY->xU K H xs (tK r.args a) ->
   sp K xs H (λv H'=>Dw K H' v (r.ret.enc (Jy r.args r.f a))) λ_ _ _=>False)
  (hCX:∀(H:Hp) (s:aA) (e:aq) (s':aA),CX [] H s (λ_ _ _=>False) e s'->False) :
  PySem.W.WalkOS q loose XP YP r d [] (λf vs=>PySem.call f vs):=
 SS (K:=K) (CX:=λ_=>CX) (sp:=λw=>sp (K w.params)) hwell hdf hlen hr hY F (λw H xs a h1 h2 h3 h4=>hsp (K w.params) H xs a (hN w) h1 h2 h3 h4) λ_ H s e s'=>hCX H s e s'
end L3
local macro_rules
 |`(universe $x)=>do
  let mut c:=#[]
  let s:=x.getId.toString.toList.drop 1
  for i in [0:s.length/11] do
   let d:=Lean.mkIdent (.str `PySem.W.Fast s!"tw{((s.drop (11*i)).take 11).foldl (λn c=>n*62+c.toNat-if c.isDigit then 48 else if c.isUpper then 55 else 61) 0}")
   c:=c.push (<-`(theorem $d:ident:True:=trivial))
  return Lean.mkNullNode c
universe aAV1DW7XmUSx3wIeuOsxPT30yUwOaSNgnA2VYHeKw3S593hP1lOADpUQ8NSmqi83mIZF46ezkpnDdIELAkYU00IstKsxzADJVi3OBMHVAkkv0FH2n4xBI9MwGtKX58SFvC8db78prdunHzHVAgZOJ9lMz63EEtZhDp2wQ5EkjxCsZwnSgJTHhzTtCwXaBomfU5KrTqY2gDP4SVbjR1BPJS3yOkkJC5O5SJitZjRc0SaTrDGynZo2CyuTKkpMfq3j2VUxuBoJ6AccJE7Lg0rEJay8BICvo25G0ueLEBn7w86UknpMn1GfEG4mLmbeD4bPC6PV3LGLOoA5CN6faZIHHgAlL1zRunSJx3Xi0mrcTtkiGOFxGlNkzEFBCSVvCba6lE8nH2NG8lESi4h3ep4Ttfp02QLgezfPQeSKCIea1XTiN47nGCmLs3yXs7JAfI25ftmJGYswnKVBI7lKyy0C38zK7LAPHG8xwv67XL7mPUgq4p2vJJ6Qdkn68WBHEIQbw8KSXVDXKagaE7LSqHm5uqL7oCpMCwnOziLfAjVKhdN2otYcy0F6t05BPMKYUI6FtuOdj7InJptpJgL88GSGp8H0vVOAHyDYOuepnNTxSE2BhfiOCEEV9WPYc27Clj0BBrmxEzIbnFEX1ChDZkLvA1yao62BUWXxARFIMKpF4nqFn4aJR70dUZ9KxCAw8ZuFaILvuhuJCU4JJ5AKQg0aI49Fep3Nr0cfG4FocSEyMf4rLL6PiSLwP4a28BZPzZCn1SXC8SRjMG8YXACZGDF2OcQDt4QeHzEd6yntBkBa3qJXF504x3Jb4cD7RgLBuex0yl9PKHIEvKRstg2oF1X9xrRVN8V4vjzxV5XR2TC8mL4l6ZSq16os65OXkBqn80B12bJOyK57jVvsT6xn1WDVYVds1I7UN0rTAzMo7H3nKFQRenrd3RvDjesrHX2dpc8nIFi0WhHiaKe7mOXqytIdKWGeqwB7rSkIM6fuNbamfrJqUC2AQSiYp11QL6e0Golo7ZNFc9orsBx3CY6g6UaCXC1k4Xf0ONQkPCtQcEiFV1TN9N71rBMzXAhC3S2b6P6CylHBPC2TXc5jj3ocjctqNe7lL3GQmJL5tEwGGQZwnD46dPENbMoM1QGyZHFEVToPxEc5ALx9qXoeGfe9eMYfmv2bQ83z80Yu3ipui1migFaPr8Q66Td860IWT2WHlbTvWfblO38f4OsQUDXYfFREtwbFEJL6E24CMyJR1009rdCmrE7N8xEKpyrkO2kUyF0gCkIdJMWHEDrfzeCxgQK9fbp7JrusfOKrFOcw8KT8yK3Sj85SRRqjAAoeR2GXoyH43OnORcC285DPn3tLoHAif6d4OJViKYF29dw28swTGJmGxAvo2yl8ZVA554nj8OGv5Giu3zLhYHWE1oovHK0tD2f9KdPSp5udRp0OzaiftliiQGUUgSEfMuywBJjRrYvXXUvDLX3mrg3QObJyXaSiAeEWZ4klPduwEunM9LPFRdGOXHeAD76jFpfskTJZhvfytcSYG5miRr3l7zonDEfqZ8wJ4Le4lgK2NxVvYFAG21dVc5jiq3rims9RcRHj9yerFJgrDee5ey5Iu93B337gOrTqrqR2r5tXjpb1AkolAHibrujaIlcF88lkoTMcNb6r1igHGIgCNHrR207VDSGrFD2KcU9Sy0c6d197FfcamfBK59Et3gaJYCq7AIEie0GuLKRySjTs0GqAdeqUzPBPsD3rnsgf9VrtZFcUk0qAIPpwDijBlA7bMZTIuN0hp6FimK5kHshkHJySm2qsyWtLKOij0hYITbFpTkdDKMdEJ6UsdvDwJpSQ4FOerCzW6F34yMnUH0C47NO8iwDJGDTKDqTJ0r52dfOWVlTO46i9smZzED2BF0Z0iJ1emNA1fcNKFaQpajDbNf6si6ZcFH8jlw6S9rWR9limDbcsB7EC1X3n1MOIio09AHqzIEZbu3DGWnHDrlo0BWy8a4FHS7WDeVZ3X7SylQL2PywY71N7wJOaFDVDxtt1CB3yTsbm74YDgNMDXSVk5SCPxaQtG6N0E8NTgz1UETj8G21fIvUYMHEDQeUcG088odHPKwCO6MljiJCt2uOPtiMt389eJfOJHwK8sNawHKsnzeKayH4UgUenp7VkpL4SCGMoEiofHeuYIGU4rRoIHFN9OO2gcKz9Crxue3ebabayTvClKs8AuqBdHkD77YeWudQu5IC1aagJFmOmrBeMRsiUIUfx99eDpt9AHNh4yugcNOBBXM6PDp5aJ3bSb1Iy7v7SJS5OKSja4JRRaKECTAsg5UlexLLJs8LdmnwkR4SEoDLv5DsdL1mPzv1wWBkEY4BxBnX1c28Q9aNSIWnQz7fs83p7XKNMKc1Z7pTZ7qJKNYtCEwr8cHL8JDBQIDiZC2ArLRTUiQ2c5MkNmBm7XL844iZWVYw3amGp8maUGJL755lipQRZWSoPCmfKHHrtI0c6SksuEcaYkXBvfHmAHmEzAKejWCozUDhS5ObZYpGt5xXGy20nbcMh0GGecEXMmrVouKYX5Pv6BtDa8QcR0E9z4OP1EwHtDJlFhUHcH8YRXhwBO2eWH24thq1X1q7DdH0gtoA6NIoVPaNMaO2AKdRcsHJhmKZKeWfx4r198B4jtnFBDFx6s57xi2YgdLB8t6nQm7IuPEi7MktwyoLmFbPFXacDmHh1VkerJ6Gjyc3I9KgEAEPpWBYXpWzWkhxqIDoUAhREN2i1vQ5OS86ZxR3PF4XD8VkEQ5JBJZskcLN166EvaLpXdrd6cWAhwD6sDvA9vVFDruPAvBNdV3iemJ6sBxaQ46ADmGk3HlbsgzqATJ9jXW2dx9pb4DNLmcNel5zCGfeVUH13Ag29oGF2exLEBJ1HbTY71tXSM3B8UyVTaXaoAxf6WftWKu0B7Blk12XsNNLvWpgIWZaFN7cZQUXg6DjsLTs84VW9ZTT28LHuV0iTsv4G2C0EgqJKH5CsL8OF3Gv25Tf6PY2Wtwq7PRKHewW3zQ9tEDp60RWKv61Ch0kDNSPcEaMVjEOAZ8KDo2GIfhrchcHPtmMHc9W7P1nDp0LYmzq37athIrb5mHJAy6LOq5JGgUF8TM0uSkvKP5PKDKA6y7Oi7dV8IU5lxJhFtXmYuBfAwM262WiNTz7YUFY9kNqSxzlPKi31GAjBwm5DQBZNL0KgxT3RL6ufeOQUd44Z4h7R7FSM7Se4wTcxrLqHOK32PyO7vgIYthWSYk5ud0HKo9CsNV3B1rkG3Zozxub6QbyMymXSq6Ji3jIBuFohX
open PySem PySem.W PyProof.Rows
set_option maxRecDepth 100000 in
set_option maxHeartbeats 0 in
theorem PySem.Challenge.cw_hintmaps_s01_answers_holds : PySem.Challenge.rw_hintmaps_s01_answers.Holds := by
  w_on;k_headS;(case hw=>exact⟨[.list [.int 0,.int 1,.int 0]],by decide +kernel,by decide +kernel⟩)
  k_fillS
  refine L3.a0o (r:=PySem.Challenge.rw_hintmaps_s01_answers) (k:=100) (CX:=L2.Kr) (ps:=["calls"]) (sp:=fun K=>L3.l9 K L3.tq) (by decide +kernel) rfl rfl ⟨rfl,by decide,by decide⟩ (fun w h Y=>PySem.W.kIn_of Y) (fun _=>rfl) ?F ?S (fun _ _ _ _ z=>z)
  case F=>
    intro w mg fa h Y KX G hmg
    clear Y
    have a0:=PySem.W.mg_none_of (n:="len") KX G (by k_is)
    have b0:=PySem.W.mg_none_of (n:="list") KX G (by k_is)
    have c0:=PySem.W.mg_none_of (n:="tuple") KX G (by k_is)
    have d0:=PySem.W.mg_none_of (n:="dict") KX G (by k_is)
    have e0:=PySem.W.mg_none_of (n:="sorted") KX G (by k_is)
    have f0:=PySem.W.mg_none_of (n:="all") KX G (by k_is)
    have g0:=PySem.W.mg_none_of (n:="any") KX G (by k_is)
    have h0:=PySem.W.mg_none_of (n:="sum") KX G (by k_is)
    have i0:=PySem.W.mg_none_of (n:="max") KX G (by k_is)
    have j0:=PySem.W.mg_none_of (n:="range") KX G (by k_is)
    have k0:=PySem.W.mg_none_of (n:="enumerate") KX G (by k_is)
    have l0:=PySem.W.mg_none_of (n:="zip") KX G (by k_is)
    have m0:=by refine' L3.pK (x:="CLEAR") (i:=0) KX G ?z1L;(case z1L=>k_is)
    have n0:=by refine' L3.pK (x:="VAR") (i:=1) KX G ?z1L;(case z1L=>k_is)
    have o0:=by refine' L3.pK (x:="MAYBE") (i:=5) KX G ?z1L;(case z1L=>k_is)
    have p0:=by refine' L3.pK (x:="START") (i:=7) KX G ?z1L;(case z1L=>k_is)
    have q0:=by
      refine' L3.Rl (x:="FORMS") (d:=L3.A8) KX G ?z1L ?z1O;(case z1L=>k_is)
      (case z1O=>
        refine' L3.RK.mtup ?z1B ?z1E ?z1D;(case z1B=>k_is)
        (case z1E=>decide)
        (case z1D=>
          refine' .cons ?z1F (.cons ?z1G (.cons ?z1H (.cons ?z1I (.cons ?z1J (.cons ?z1K (.cons ?z1k (.cons ?z1l (.cons ?z1m (.cons ?z1n (.cons ?z1o (.cons ?z1p (.cons ?z1q (.cons ?z1r (.cons ?z1s (.cons ?z1t (.cons ?z1u (.cons ?z1v (.cons ?z1w (.cons ?z1x (.cons ?z1y (.cons ?z1z (.cons ?z1A .nil))))))))))))))))))))))
          (case z1F=>
            refine' L3.RK.mtup ?z0s ?z12 ?z0K;(case z0s=>k_is)
            (case z12=>decide)
            (case z0K=>
              refine' .nil))
          (case z1G=>
            refine' L3.RK.mtup ?z0t ?z13 ?z0L;(case z0t=>k_is)
            (case z13=>decide)
            (case z0L=>
              refine' .cons L3.RK.str (.cons L3.RK.str .nil)))
          (case z1H=>
            refine' L3.RK.mtup ?z0u ?z14 ?z0M;(case z0u=>k_is)
            (case z14=>decide)
            (case z0M=>
              refine' .cons L3.RK.str (.cons L3.RK.str .nil)))
          (case z1I=>
            refine' L3.RK.mtup ?z0v ?z15 ?z0N;(case z0v=>k_is)
            (case z15=>decide)
            (case z0N=>
              refine' .cons L3.RK.str .nil))
          (case z1J=>
            refine' L3.RK.mtup ?z0w ?z16 ?z0O;(case z0w=>k_is)
            (case z16=>decide)
            (case z0O=>
              refine' .cons L3.RK.str (.cons L3.RK.str .nil)))
          (case z1K=>
            refine' L3.RK.mtup ?z0x ?z17 ?z0P;(case z0x=>k_is)
            (case z17=>decide)
            (case z0P=>
              refine' .cons L3.RK.str (.cons L3.RK.str (.cons L3.RK.str .nil))))
          (case z1k=>
            refine' L3.RK.mtup ?z0y ?z18 ?z0Q;(case z0y=>k_is)
            (case z18=>decide)
            (case z0Q=>
              refine' .cons L3.RK.str (.cons L3.RK.str .nil)))
          (case z1l=>
            refine' L3.RK.mtup ?z0z ?z19 ?z0R;(case z0z=>k_is)
            (case z19=>decide)
            (case z0R=>
              refine' .cons L3.RK.str .nil))
          (case z1m=>
            refine' L3.RK.mtup ?z0A ?z1a ?z0S;(case z0A=>k_is)
            (case z1a=>decide)
            (case z0S=>
              refine' .cons L3.RK.str .nil))
          (case z1n=>
            refine' L3.RK.mtup ?z0B ?z1b ?z0T;(case z0B=>k_is)
            (case z1b=>decide)
            (case z0T=>
              refine' .nil))
          (case z1o=>
            refine' L3.RK.mtup ?z0C ?z1c ?z0U;(case z0C=>k_is)
            (case z1c=>decide)
            (case z0U=>
              refine' .nil))
          (case z1p=>
            refine' L3.RK.mtup ?z0D ?z1d ?z0V;(case z0D=>k_is)
            (case z1d=>decide)
            (case z0V=>
              refine' .nil))
          (case z1q=>
            refine' L3.RK.mtup ?z0E ?z1e ?z0W;(case z0E=>k_is)
            (case z1e=>decide)
            (case z0W=>
              refine' .cons L3.RK.str .nil))
          (case z1r=>
            refine' L3.RK.mtup ?z0F ?z1f ?z0X;(case z0F=>k_is)
            (case z1f=>decide)
            (case z0X=>
              refine' .cons L3.RK.str .nil))
          (case z1s=>
            refine' L3.RK.mtup ?z0G ?z1g ?z0Y;(case z0G=>k_is)
            (case z1g=>decide)
            (case z0Y=>
              refine' .nil))
          (case z1t=>
            refine' L3.RK.mtup ?z0H ?z1h ?z0Z;(case z0H=>k_is)
            (case z1h=>decide)
            (case z0Z=>
              refine' .cons L3.RK.str .nil))
          (case z1u=>
            refine' L3.RK.mtup ?z0I ?z1i ?z10;(case z0I=>k_is)
            (case z1i=>decide)
            (case z10=>
              refine' .cons L3.RK.str .nil))
          (case z1v=>
            refine' L3.RK.mtup ?z0J ?z1j ?z11;(case z0J=>k_is)
            (case z1j=>decide)
            (case z11=>
              refine' .cons L3.RK.str .nil))
          (case z1w=>
            refine' L3.RK.mtup ?z0 ?z00 ?zI;(case z0=>k_is)
            (case z00=>decide)
            (case zI=>
              refine' .cons L3.RK.str .nil))
          (case z1x=>
            refine' L3.RK.mtup ?z1 ?z01 ?zJ;(case z1=>k_is)
            (case z01=>decide)
            (case zJ=>
              refine' .cons L3.RK.str .nil))
          (case z1y=>
            refine' L3.RK.mtup ?z2 ?z02 ?zK;(case z2=>k_is)
            (case z02=>decide)
            (case zK=>
              refine' .nil))
          (case z1z=>
            refine' L3.RK.mtup ?z3 ?z03 ?zL;(case z3=>k_is)
            (case z03=>decide)
            (case zL=>
              refine' .nil))
          (case z1A=>
            refine' L3.RK.mtup ?z4 ?z04 ?zM;(case z4=>k_is)
            (case z04=>decide)
            (case zM=>
              refine' .nil))))
    have r0:=by refine' L3.pK (x:="LONGEST_LIST") (i:=30) KX G ?z1L;(case z1L=>k_is)
    have t0:=by refine' L3.pK (x:="MOST_VARIABLES") (i:=8) KX G ?z1L;(case z1L=>k_is)
    have u0:=by refine' L3.pK (x:="MOST_DOINGS") (i:=20) KX G ?z1L;(case z1L=>k_is)
    have v0:=by refine' L3.pK (x:="MOST_VIEWS") (i:=20) KX G ?z1L;(case z1L=>k_is)
    have x0:=by refine' L3.pK (x:="MOST_FACTS") (i:=12) KX G ?z1L;(case z1L=>k_is)
    have y0:=by
      refine' L3.Rl (x:="PUZZLE_CALLS") (d:=L3.nU) KX G ?z1L ?z1O;(case z1L=>k_is)
      (case z1O=>
        refine' L3.RK.mtup ?z5 ?z05 ?zN;(case z5=>k_is)
        (case z05=>decide)
        (case zN=>
          refine' .cons L3.RK.ref (.cons L3.RK.ref (.cons L3.RK.ref (.cons L3.RK.ref (.cons L3.RK.ref (.cons L3.RK.ref .nil)))))))
    have z0:=by refine' L3.pK (x:="MOST_STATES") (i:=200) KX G ?z1L;(case z1L=>k_is)
    have a1:=by refine' L3.pK (x:="MOST_PAST") (i:=200) KX G ?z1L;(case z1L=>k_is)
    have b1:=by
      refine' L3.Rl (x:="BAR_REFUSALS") (d:=L3.nR) KX G ?z1L ?z1O;(case z1L=>k_is)
      (case z1O=>
        refine' L3.RK.mtup ?z6 ?z06 ?zO;(case z6=>k_is)
        (case z06=>decide)
        (case zO=>
          refine' .cons L3.RK.int (.cons L3.RK.int (.cons L3.RK.int (.cons L3.RK.int .nil)))))
    have c1:=by
      refine' L3.Rl (x:="PLAY_CALLS") (d:=L3.rD) KX G ?z1L ?z1O;(case z1L=>k_is)
      (case z1O=>
        refine' L3.RK.mtup ?z7 ?z07 ?zP;(case z7=>k_is)
        (case z07=>decide)
        (case zP=>
          refine' .cons L3.RK.ref (.cons L3.RK.ref (.cons L3.RK.ref (.cons L3.RK.ref (.cons L3.RK.ref (.cons L3.RK.ref (.cons L3.RK.ref (.cons L3.RK.ref (.cons L3.RK.ref (.cons L3.RK.ref (.cons L3.RK.ref (.cons L3.RK.ref (.cons L3.RK.ref (.cons L3.RK.ref (.cons L3.RK.ref .nil))))))))))))))))
    have d1:=by refine' L3.pK (x:="MOST_STARTS") (i:=400) KX G ?z1L;(case z1L=>k_is)
    have e1:=by refine' L3.pK (x:="MOST_BEGINNINGS") (i:=40) KX G ?z1L;(case z1L=>k_is)
    have f1:=by
      refine' L3.YX (P:=PySem.Challenge.rw_hintmaps_s01_answers.prog) (w:=w) KX G ?z1L ?z1C ?z1M ?z1N;(case z1L=>k_is)
      (case z1C=>decide);(case z1M=>k_is)
      (case z1N=>
        refine' .cons (.mk ?z0i) (.cons (.mk ?z0j) (.cons (.mk ?z0k) (.cons (.mk ?z0l) (.cons (.mk ?z0m) (.cons (.mk ?z0n) (.cons (.mk ?z0o) (.cons (.mk ?z0p) (.cons (.mk ?z0q) (.cons (.mk ?z0r) .nil)))))))))
        (case z0i=>
          refine' L3.RK.mtup ?z8 ?z08 ?zQ;(case z8=>k_is)
          (case z08=>decide)
          (case zQ=>
            refine' .cons L3.RK.int (.cons L3.RK.int .nil)))
        (case z0j=>
          refine' L3.RK.mtup ?z9 ?z09 ?zR;(case z9=>k_is)
          (case z09=>decide)
          (case zR=>
            refine' .cons L3.RK.int (.cons L3.RK.int .nil)))
        (case z0k=>
          refine' L3.RK.mtup ?zA ?z0a ?zS;(case zA=>k_is)
          (case z0a=>decide)
          (case zS=>
            refine' .cons L3.RK.int (.cons L3.RK.int .nil)))
        (case z0l=>
          refine' L3.RK.mtup ?zB ?z0b ?zT;(case zB=>k_is)
          (case z0b=>decide)
          (case zT=>
            refine' .cons L3.RK.int (.cons L3.RK.int .nil)))
        (case z0m=>
          refine' L3.RK.mtup ?zC ?z0c ?zU;(case zC=>k_is)
          (case z0c=>decide)
          (case zU=>
            refine' .cons L3.RK.int (.cons L3.RK.int .nil)))
        (case z0n=>
          refine' L3.RK.mtup ?zD ?z0d ?zV;(case zD=>k_is)
          (case z0d=>decide)
          (case zV=>
            refine' .cons L3.RK.int (.cons L3.RK.int .nil)))
        (case z0o=>
          refine' L3.RK.mtup ?zE ?z0e ?zW;(case zE=>k_is)
          (case z0e=>decide)
          (case zW=>
            refine' .cons L3.RK.int (.cons L3.RK.int .nil)))
        (case z0p=>
          refine' L3.RK.mtup ?zF ?z0f ?zX;(case zF=>k_is)
          (case z0f=>decide)
          (case zX=>
            refine' .cons L3.RK.int (.cons L3.RK.int .nil)))
        (case z0q=>
          refine' L3.RK.mtup ?zG ?z0g ?zY;(case zG=>k_is)
          (case z0g=>decide)
          (case zY=>
            refine' .cons L3.RK.int (.cons L3.RK.int .nil)))
        (case z0r=>
          refine' L3.RK.mtup ?zH ?z0h ?zZ;(case zH=>k_is)
          (case z0h=>decide)
          (case zZ=>
            refine' .cons L3.RK.int (.cons L3.RK.int .nil))))
    have g1:=L3.a1Q.mk a0 b0 c0 d0 e0 f0 g0 h0 i0 j0 k0 l0 m0 n0 o0 p0 q0 r0 t0 u0 v0 x0 y0 z0 a1 b1 c1 d1 e1 f1
    have h1:=by refine' L3.bD (x:="is_between") (st:=L3.wq) (f:=L3.CT) KX G ?_ ?_ ?_ ?_;any_goals k_is
    have i1:=by refine' L3.bD (x:="is_list") (st:=L3.Ec) (f:=L3.KR) KX G ?_ ?_ ?_ ?_;any_goals k_is
    have j1:=by refine' L3.bD (x:="arguments_of") (st:=L3.sj) (f:=L3.yQ) KX G ?_ ?_ ?_ ?_;any_goals k_is
    have k1:=by refine' L3.bD (x:="threes") (st:=L3.H_) (f:=L3.NQ) KX G ?_ ?_ ?_ ?_;any_goals k_is
    have l1:=by refine' L3.bD (x:="is_three_in_range") (st:=L3.lY) (f:=L3.ra) KX G ?_ ?_ ?_ ?_;any_goals k_is
    have m1:=by refine' L3.bD (x:="is_list_in_range") (st:=L3.mQ) (f:=L3.sh) KX G ?_ ?_ ?_ ?_;any_goals k_is
    have n1:=by refine' L3.bD (x:="is_argument_in_range") (st:=L3.k7) (f:=L3.nQ) KX G ?_ ?_ ?_ ?_;any_goals k_is
    have o1:=by refine' L3.bD (x:="are_in_range") (st:=L3.sr) (f:=L3.yP) KX G ?_ ?_ ?_ ?_;any_goals k_is
    have p1:=by refine' L3.bD (x:="is_there") (st:=L3.BH) (f:=L3.HY) KX G ?_ ?_ ?_ ?_;any_goals k_is
    have q1:=by refine' L3.bD (x:="are_needs_there") (st:=L3.nX) (f:=L3.tY) KX G ?_ ?_ ?_ ?_;any_goals k_is
    have r1:=by refine' L3.bD (x:="is_effect_there") (st:=L3.nZ) (f:=L3.tZ) KX G ?_ ?_ ?_ ?_;any_goals k_is
    have t1:=by refine' L3.bD (x:="are_effects_there") (st:=L3.m5) (f:=L3.r9) KX G ?_ ?_ ?_ ?_;any_goals k_is
    have u1:=by refine' L3.bD (x:="tell_variable") (st:=L3.qG) (f:=L3.mD) KX G ?_ ?_ ?_ ?_;any_goals k_is
    have v1:=by refine' L3.bD (x:="tell_doing") (st:=L3.wu) (f:=L3.rC) KX G ?_ ?_ ?_ ?_;any_goals k_is
    have x1:=by refine' L3.bD (x:="tell_goal") (st:=L3.yT) (f:=L3.tV) KX G ?_ ?_ ?_ ?_;any_goals k_is
    have y1:=by refine' L3.bD (x:="tell_view") (st:=L3.yV) (f:=L3.tW) KX G ?_ ?_ ?_ ?_;any_goals k_is
    have z1:=by refine' L3.bD (x:="tell_span") (st:=L3.yX) (f:=L3.tX) KX G ?_ ?_ ?_ ?_;any_goals k_is
    have a2:=by refine' L3.bD (x:="tell_new_fact") (st:=L3.qI) (f:=L3.mB) KX G ?_ ?_ ?_ ?_;any_goals k_is
    have b2:=by refine' L3.bD (x:="answer_on_puzzle") (st:=L3.mT) (f:=L3.sg) KX G ?_ ?_ ?_ ?_;any_goals k_is
    have c2:=by refine' L3.Ho (x:="Puzzle") (q:="Puzzle.__init__") (st:=L3.ur) (C:=L3.iK) KX G ?_ ?_ ?_ ?_ ?_ ?_ ?_ ?_ ?_ ?_ ?_ ?_ (L3.noA ?_ ?_ ?_ ?_ ?_ ?_ ?_ ?_ ?_ ?_ ?_ ?_ ?_ ?_ ?_ ?_ ?_ ?_ ?_ ?_);any_goals k_is
    have d2:=by refine' L3.bD (x:="is_need_met") (st:=L3.uv) (f:=L3.B7) KX G ?_ ?_ ?_ ?_;any_goals k_is
    have e2:=by refine' L3.bD (x:="are_needs_met") (st:=L3.qK) (f:=L3.xH) KX G ?_ ?_ ?_ ?_;any_goals k_is
    have f2:=by refine' L3.bD (x:="is_end") (st:=L3.Ie) (f:=L3.NP) KX G ?_ ?_ ?_ ?_;any_goals k_is
    have g2:=by refine' L3.bD (x:="values_behind_effect") (st:=L3.k9) (f:=L3.nP) KX G ?_ ?_ ?_ ?_;any_goals k_is
    have h2:=by refine' L3.bD (x:="are_values_in_range") (st:=L3.kJ) (f:=L3.o_) KX G ?_ ?_ ?_ ?_;any_goals k_is
    have i2:=by refine' L3.bD (x:="state_behind") (st:=L3.sA) (f:=L3.yN) KX G ?_ ?_ ?_ ?_;any_goals k_is
    have j2:=by refine' L3.bD (x:="is_seen") (st:=L3.Eg) (f:=L3.KQ) KX G ?_ ?_ ?_ ?_;any_goals k_is
    have k2:=by refine' L3.bD (x:="what_is_seen") (st:=L3.sD) (f:=L3.yO) KX G ?_ ?_ ?_ ?_;any_goals k_is
    have l2:=by refine' L3.bD (x:="count_of_starts") (st:=L3.o4) (f:=L3.tU) KX G ?_ ?_ ?_ ?_;any_goals k_is
    have m2:=by refine' L3.bD (x:="starts_within_spans") (st:=L3.kL) (f:=L3.p0) KX G ?_ ?_ ?_ ?_;any_goals k_is
    have n2:=by refine' L3.bD (x:="beginnings_that_may_be") (st:=L3.jl) (f:=L3.ml) KX G ?_ ?_ ?_ ?_;any_goals k_is
    have o2:=by refine' L3.Ho (x:="Play") (q:="Play.__init__") (st:=L3.z7) (C:=L3.j_) KX G ?_ ?_ ?_ ?_ ?_ ?_ ?_ ?_ ?_ ?_ ?_ ?_ (L3.noA ?_ ?_ ?_ ?_ ?_ ?_ ?_ ?_ ?_ ?_ ?_ ?_ ?_ ?_ ?_ ?_ ?_ ?_ ?_ ?_);any_goals k_is
    have p2:=by refine' L3.bD (x:="seen_in") (st:=L3.Ei) (f:=L3.KP) KX G ?_ ?_ ?_ ?_;any_goals k_is
    have q2:=by refine' L3.bD (x:="trial") (st:=L3.Me) (f:=L3.QT) KX G ?_ ?_ ?_ ?_;any_goals k_is
    have r2:=by refine' L3.bD (x:="trials_in") (st:=L3.z9) (f:=L3.FA) KX G ?_ ?_ ?_ ?_;any_goals k_is
    have t2:=by refine' L3.bD (x:="beliefs_by_noticed") (st:=L3.lj) (f:=L3.qk) KX G ?_ ?_ ?_ ?_;any_goals k_is
    have u2:=by refine' L3.bD (x:="beliefs_behind") (st:=L3.pj) (f:=L3.vt) KX G ?_ ?_ ?_ ?_;any_goals k_is
    have v2:=by refine' L3.bD (x:="try_doing") (st:=L3.zc) (f:=L3.Fx) KX G ?_ ?_ ?_ ?_;any_goals k_is
    have x2:=by refine' L3.bD (x:="states_left") (st:=L3.ux) (f:=L3.B6) KX G ?_ ?_ ?_ ?_;any_goals k_is
    have y2:=by refine' L3.bD (x:="bar_of") (st:=L3.Ih) (f:=L3.NO) KX G ?_ ?_ ?_ ?_;any_goals k_is
    have z2:=by refine' L3.bD (x:="tell_fact") (st:=L3.ze) (f:=L3.Fy) KX G ?_ ?_ ?_ ?_;any_goals k_is
    have a3:=by refine' L3.Ho (x:="BeliefMap") (q:="BeliefMap.__init__") (st:=L3.pq) (C:=L3.cK) KX G ?_ ?_ ?_ ?_ ?_ ?_ ?_ ?_ ?_ ?_ ?_ ?_ (L3.noA ?_ ?_ ?_ ?_ ?_ ?_ ?_ ?_ ?_ ?_ ?_ ?_ ?_ ?_ ?_ ?_ ?_ ?_ ?_ ?_);any_goals k_is
    have b3:=by refine' L3.bD (x:="number_on_map") (st:=L3.qM) (f:=L3.xG) KX G ?_ ?_ ?_ ?_;any_goals k_is
    have c3:=by refine' L3.bD (x:="ways_from") (st:=L3.zg) (f:=L3.Fv) KX G ?_ ?_ ?_ ?_;any_goals k_is
    have d3:=by refine' L3.bD (x:="explore") (st:=L3.Ek) (f:=L3.KO) KX G ?_ ?_ ?_ ?_;any_goals k_is
    have e3:=by refine' L3.bD (x:="is_all_ends") (st:=L3.uA) (f:=L3.B5) KX G ?_ ?_ ?_ ?_;any_goals k_is
    have f3:=by refine' L3.bD (x:="has_sure_way") (st:=L3.sG) (f:=L3.yM) KX G ?_ ?_ ?_ ?_;any_goals k_is
    have g3:=by refine' L3.bD (x:="levels_of") (st:=L3.zj) (f:=L3.Fw) KX G ?_ ?_ ?_ ?_;any_goals k_is
    have h3:=by refine' L3.bD (x:="leads_one_down") (st:=L3.pz) (f:=L3.vq) KX G ?_ ?_ ?_ ?_;any_goals k_is
    have i3:=by refine' L3.bD (x:="hint_at") (st:=L3.Em) (f:=L3.KN) KX G ?_ ?_ ?_ ?_;any_goals k_is
    have j3:=by refine' L3.bD (x:="strategy_on") (st:=L3.uC) (f:=L3.B4) KX G ?_ ?_ ?_ ?_;any_goals k_is
    have k3:=by refine' L3.bD (x:="level_left") (st:=L3.wB) (f:=L3.CS) KX G ?_ ?_ ?_ ?_;any_goals k_is
    have l3:=by refine' L3.bD (x:="weakest_fact") (st:=L3.sI) (f:=L3.yL) KX G ?_ ?_ ?_ ?_;any_goals k_is
    have m3:=by refine' L3.bD (x:="states_in_reach") (st:=L3.o9) (f:=L3.tT) KX G ?_ ?_ ?_ ?_;any_goals k_is
    have n3:=by refine' L3.bD (x:="states_before") (st:=L3.qO) (f:=L3.xF) KX G ?_ ?_ ?_ ?_;any_goals k_is
    have o3:=by refine' L3.bD (x:="distances_to_end") (st:=L3.mV) (f:=L3.sf) KX G ?_ ?_ ?_ ?_;any_goals k_is
    have p3:=by refine' L3.bD (x:="sight_of") (st:=L3.BM) (f:=L3.HX) KX G ?_ ?_ ?_ ?_;any_goals k_is
    have q3:=by refine' L3.bD (x:="with_count") (st:=L3.wD) (f:=L3.CQ) KX G ?_ ?_ ?_ ?_;any_goals k_is
    have r3:=by refine' L3.bD (x:="answer_play") (st:=L3.uE) (f:=L3.pU) KX G ?_ ?_ ?_ ?_;any_goals k_is
    have t3:=by refine' L3.bD (x:="answer_view") (st:=L3.uG) (f:=L3.pS) KX G ?_ ?_ ?_ ?_;any_goals k_is
    have u3:=by refine' L3.bD (x:="answer_belief") (st:=L3.qQ) (f:=L3.mz) KX G ?_ ?_ ?_ ?_;any_goals k_is
    have v3:=by refine' L3.bD (x:="answer_known") (st:=L3.sM) (f:=L3.nM) KX G ?_ ?_ ?_ ?_;any_goals k_is
    have x3:=by refine' L3.bD (x:="answer_level") (st:=L3.sO) (f:=L3.nN) KX G ?_ ?_ ?_ ?_;any_goals k_is
    have y3:=by refine' L3.bD (x:="answer_hint") (st:=L3.uI) (f:=L3.pT) KX G ?_ ?_ ?_ ?_;any_goals k_is
    have z3:=by refine' L3.bD (x:="answer_sight") (st:=L3.sR) (f:=L3.nO) KX G ?_ ?_ ?_ ?_;any_goals k_is
    have a4:=by refine' L3.bD (x:="answer_bar") (st:=L3.wG) (f:=L3.rA) KX G ?_ ?_ ?_ ?_;any_goals k_is
    have b4:=by refine' L3.bD (x:="answer_tell") (st:=L3.uK) (f:=L3.pQ) KX G ?_ ?_ ?_ ?_;any_goals k_is
    have c4:=by refine' L3.bD (x:="answer_lead") (st:=L3.uM) (f:=L3.pR) KX G ?_ ?_ ?_ ?_;any_goals k_is
    have d4:=by refine' L3.bD (x:="answer_map") (st:=L3.wI) (f:=L3.rB) KX G ?_ ?_ ?_ ?_;any_goals k_is
    have e4:=by refine' L3.bD (x:="strategy_entry") (st:=L3.pC) (f:=L3.vp) KX G ?_ ?_ ?_ ?_;any_goals k_is
    have f4:=by refine' L3.bD (x:="answer_strategy") (st:=L3.oj) (f:=L3.kT) KX G ?_ ?_ ?_ ?_;any_goals k_is
    have g4:=by refine' L3.bD (x:="answer_actual") (st:=L3.qT) (f:=L3.my) KX G ?_ ?_ ?_ ?_;any_goals k_is
    have h4:=by refine' L3.bD (x:="answer_past") (st:=L3.uO) (f:=L3.pP) KX G ?_ ?_ ?_ ?_;any_goals k_is
    have i4:=by refine' L3.bD (x:="answer_purse") (st:=L3.sV) (f:=L3.nL) KX G ?_ ?_ ?_ ?_;any_goals k_is
    have j4:=by refine' L3.bD (x:="answer_on_play") (st:=L3.pE) (f:=L3.vo) KX G ?_ ?_ ?_ ?_;any_goals k_is
    have k4:=by refine' L3.Ho (x:="Game") (q:="Game.__init__") (st:=L3.zw) (C:=L3.iW) KX G ?_ ?_ ?_ ?_ ?_ ?_ ?_ ?_ ?_ ?_ ?_ ?_ (L3.noA ?_ ?_ ?_ ?_ ?_ ?_ ?_ ?_ ?_ ?_ ?_ ?_ ?_ ?_ ?_ ?_ ?_ ?_ ?_ ?_);any_goals k_is
    have l4:=by refine' L3.bD (x:="clear_game") (st:=L3.wK) (f:=L3.CO) KX G ?_ ?_ ?_ ?_;any_goals k_is
    have m4:=by refine' L3.bD (x:="build_puzzle") (st:=L3.sX) (f:=L3.yK) KX G ?_ ?_ ?_ ?_;any_goals k_is
    have n4:=by refine' L3.bD (x:="start_play") (st:=L3.wM) (f:=L3.CP) KX G ?_ ?_ ?_ ?_;any_goals k_is
    have o4:=by refine' L3.bD (x:="answer_to") (st:=L3.zB) (f:=L3.Fu) KX G ?_ ?_ ?_ ?_;any_goals k_is
    have p4:=by refine' L3.bD (x:="answers") (st:=L3.A9) (f:=L3.KM) KX G ?_ ?_ ?_ ?_;any_goals k_is
    exact L3.YY ⟨g1,h1,i1,j1,k1,l1,m1,n1,o1,p1,q1,r1,t1,u1,v1,x1,y1,z1,a2,b2,c2,d2,e2,f2,g2,h2,i2,j2,k2,l2,m2,n2,o2,p2,q2,r2,t2,u2,v2,x2,y2,z2,a3,b3,c3,d3,e3,f3,g3,h3,i3,j3,k3,l3,m3,n3,o3,p3,q3,r3,t3,u3,v3,x3,y3,z3,a4,b4,c4,d4,e4,f4,g4,h4,i4,j4,k4,l4,m4,n4,o4,p4⟩ hmg
  case S=>
    intro K H xs a hn hO hwi hask hx
    cases hx with
    |cons h1 h2=>
      cases h2
      cases h1 with
      |lst hs ha=>
        have q4:=L2.Ri a.1 _ ha
        subst q4
        exact L3.Y_ hn hO hs hask
